/- Texts (its parts, joined). -/
import Derived.Test.YtidhiaaicmfabaaGreatDoorTqBC
import Derived.Test.YtidhiaaicmfabaaGreatDoorTqAZ
open Nat renaming le_refl→z5
namespace Go.Proofs.YtidhiaaicmfabaaGreatDoor
open Go.RowKit Go.Proofs Go.Deep
set_option maxRecDepth 100000
set_option maxHeartbeats 4000000
open Below renaming heap_setCell→z0,heap_alloc→z6
def I0 (L:LB):Nat→Nat→Option (List Int×Nat)
 |0,_=>none
 |f+1,k=>if B6 (A0 L k) wCM then (D2 L (k+1)).bind (fun p=>(I0 L f p.2).bind (fun q=>some (p.1::q.1,q.2))) else some ([],k)
theorem A4m {L:LB}:∀{f k:Nat}{ns:List Int}{k':Nat},I0 L f k=some (ns,k')→k≤k'
 |0,_,_,_,h=>by cases h
 |f+1,k,ns,k',h=>by
  rw[I0] at h;split at h
  ·obtain⟨p,c,h⟩:=C8 h;obtain⟨q,d,h⟩:=C8 h;injection h with h;injection h with _ h;have a:=O1 c;have b:=A4m d;omega
  ·injection h with h;injection h with _ h;omega
def A3V (L:LB)(c:Nat→Nat→Option (Sl×Nat))(k d:Nat):Option ((List Int×Sl)×Nat):=
 let r1:=D2 L k
 let r2:=(r1.map (·.2)).bind (I0 L (L.length+1))
 let st3:=(r2.map (·.2)).bind (xS L wCO)
 let r4:=st3.bind (fun k=>c k d)
 r4.bind (fun b=>r2.bind (fun a=>r1.bind (fun n=>some ((n.1::a.1,b.1),b.2))))
def WhU (r:Option ((List Int×Sl)×Nat))(lo hi:Nat)(w:WD)(f:Option Addr)(e d:Nat)(ba:Option Addr)(c a:Nat):Prop:=
 ∃m vs zs,lo≤m∧m≤hi∧C2 w lo m 2 1 (.slice f e d) e (A2t vs)∧C2 w m hi 240 1 (.slice ba c a) c zs∧∀ns b k',r=some ((ns,b),k')→vs=ns∧c=b.len∧G1 (fun _=>0) (Value.slice ba c a).ownBlock b m hi w zs
structure B3f (B bp:Nat)(pv:VL)(L:LB)(d:Int)(r1:Option (Int×Nat))(r2:Option (List Int×Nat))(us:LB)(uv:VL)(w:WD)(z:Nat)(wr:WD)(gf:Nat):Prop where
 ex:∃vs ao cp st,Pu B bp pv L d st us uv wr∧(∀k,st=some k→∃n k1 done,r1=some (n,k1)∧vs=n::done∧k1≤k∧vs.length≤k∧L.length<k+gf∧r2=(I0 L gf k).map (fun q=>(done++q.1,q.2)))∧(st=none→r2=none)∧wr.ownsRow w.heap.size 2 1 (.slice ao vs.length cp) vs.length (A2t vs)∧wr.heap[z]? =some (.cells #[.slice ao vs.length cp,.slice none 0 0] 317)
 fu:Fu bp uv uv w wr
 res:wr.heap[w.heap.size]? =some (.cells #[.slice none 0 0,.slice none 0 0] 317)
theorem B84 {L:LB}(hL:A0f L){sl:Nat→Nat→Option (Sl×Nat)}{f:Nat}(hS:SlA L sl f){w:WD}{B bp:Nat}{pv:VL}{k d:Nat}{us:LB}{uv:VL}(h:Ps B bp pv L k (d:Int) us uv w)(he:Er bp w)(hd10:d≤10)(hk:L.length<k+f)(R:RP)(fin:∀w' na nn ncp ba S bcp us' uv',Pu B bp pv L (d:Int) ((A3V L sl k d).map (·.2)) us' uv' w'→Fu bp uv uv' w w'→WhU (A3V L sl k d) w.heap.size w'.heap.size w' na nn ncp ba S bcp→(∀ns b k',A3V L sl k d=some ((ns,b),k')→us'=us++E0 b∧k<k')→R (.returned (.agg #[.slice na nn ncp,.slice ba S bcp])) w'):Calls Tryz.prog 237 #[.pointer (some ⟨bp,0,none⟩)] w R:=by
 have hsm:=h.pa.sm;have hu:Pu B bp pv L (d:Int) (some k) us uv w:=h;have hw0:=hu.lt;have hB0:=hu.le;have hkl:=h.pa.le;have D:bp≠w.heap.size:=(by omega);obtain⟨r1,e1⟩:∃r,r=D2 L k:=⟨_,rfl⟩;obtain⟨r2,e2⟩:∃r,r=(r1.map (·.2)).bind (I0 L (L.length+1)):=⟨_,rfl⟩;replace fin:=hd fin;clear h;go_enter Tryz.func237,Tryz.ntmps237;go_wp2_with (fail);refine B3V hL (hu.alloc _) (he.below ((Below.refl _ w).alloc (z5 _) _)) _ ?_;have e9:(some k:Option Nat).bind (D2 L)=r1:=e1.symm;rw[e9];intro w1 n hn h1 g1;have hr1:=(hu.alloc _).apart A2 (by decide) D g1;have hz1:=g1.size;rw[World.size_alloc] at hz1;have hf1:Fu bp uv uv w w1:=(Fu.of_below ((Below.refl _ w).alloc (z5 _) _)).trans g1;have hlt1:=h1.lt;clear g1;obtain⟨W2,aa⟩:∃W2,W2=(w1.alloc (Obj.cells #[.int .i64 n] 2)).alloc (Obj.cells #[.slice (some ⟨w1.heap.size,0,none⟩) 1 1,.slice none 0 0] 317):=⟨_,rfl⟩;have o:Below w1.heap.size w1 W2:=(by rw[aa];exact ((Below.refl _ w1).alloc (z5 _) _).alloc (by simp) _);have hzb2:W2.heap[w1.heap.size+1]? =some (.cells #[.slice (some ⟨w1.heap.size,0,none⟩) 1 1,.slice none 0 0] 317):=(by have:=A2 (w:=w1.alloc (Obj.cells #[.int .i64 n] 2)) (cur:=#[.slice (some ⟨w1.heap.size,0,none⟩) 1 1,.slice none 0 0]) (T:=317) (fz:=(0,0));rw[World.size_alloc] at this;rw[aa];exact this);have hnb2:W2.heap[w1.heap.size]? =some (.cells #[.int .i64 n] 2):=(by rw[aa];exact (z6 _ _ _ (by simp)).trans A2);have y:B3f B bp pv L d r1 r2 us uv w (w1.heap.size+1) W2 (L.length+1):=by
  refine⟨⟨[n],some ⟨w1.heap.size,0,none⟩,1,r1.map (·.2),by rw[aa];exact (h1.alloc _).alloc _,?_,?_,⟨rfl,.inr ⟨w1.heap.size,1,_,rfl,by omega,hnb2,z5 _,by decide,rfl,rfl⟩⟩,hzb2⟩,hf1.trans (Fu.of_below o),(o.block _ (by omega)).trans hr1⟩
  ·intro I Q;obtain⟨m,G⟩:=bmS Q;have hm:=hn m I G;rw[G] at e1;have hlt:=O1 e1.symm;refine⟨m,I,[],G,by rw[hm],z5 _,by simp;omega,by omega,?_⟩;rw[e2,G];simp only[Option.map_some,Option.bind_some,List.nil_append];cases I0 L (L.length+1) I<;>rfl
  ·intro Q;rw[e2,Q];rfl
 have hzw:w.heap.size<w1.heap.size+1:=(by omega);replace y:=hd y;replace e1:=hd e1;replace e2:=hd e2;clear hzb2 hnb2 o hr1 h1 hf1 hn e9;go_wp2;rw[←aa];generalize hzq:w1.heap.size+1=z at*;clear aa hzq;go_loopg [9] (L.length+1) (fun gk _ wr=>B3f B bp pv L d r1 r2 us uv w z wr gk);case atStart=>exact y.out
 case round=>
  obtain⟨⟨vs,E,F,st,u,hst,hsn,l,hzb⟩,hfu,hres⟩:=hrel;clear y;have hszr:=hfu.size;have hlt:=u.lt;have hle:=u.le;have K:bp≠z:=(by omega);have hzlt:=(Array.getElem?_eq_some_iff.1 hzb).1;replace hfu:=hd hfu;replace hst:=hd hst;replace hsn:=hd hsn;go_wp2_with (fail);refine A5j (s:=wCM) u (by decide) _ ?_ ?_;rotate_left
  ·intro eC w2 h2 g2;have hrow:=hd (show C2 wr w.heap.size wr.heap.size 2 1 (.slice E vs.length F) vs.length (A2t vs) from ⟨l,fun g hg=>(l.lt g hg).2⟩);have N:r2.map (·.2)=st∧∀k,st=some k→∃n I done,r1=some (n,I)∧vs=n::done∧I≤k∧r2=some (done,k):=by
    cases st with
    |none=>rw[hsn.out rfl];exact⟨rfl,fun k e=>by cases e⟩
    |some k0=>
     obtain⟨n,I,done,Q,G,x3,P,x5,x6⟩:=hst.out k0 rfl;have e0:=eC k0 rfl;have x7:I0 L gk k0=some ([],k0):=by
      cases gk with
      |zero=>have:=Ps.pa (u:Ps B bp pv L k0 d us uv wr) |>.le;omega
      |succ g=>rw[I0,if_neg (by rw[e0];decide)]
     rw[x7] at x6;rw[x6];refine⟨rfl,fun k e=>?_⟩;injection e with e;subst e;exact⟨n,I,done,Q,G,x3,by simp⟩
   have o:=u.apart hzb (by decide) K g2;have hs2:=u.apart hres (by decide) D g2;have hr2:=hd (hrow.out.keep (by decide) (g2.sameU u (by omega) _));have f2:=hd (hfu.out.trans g2);have hz2:=g2.size;replace N:=hd N;clear g2 hrow l u hst hsn;go_wp2_with (fail);refine A0x (s:=wCO) h2 (by decide) _ ?_;obtain⟨st3,e3⟩:∃s,s=st.bind (xS L wCO):=⟨_,rfl⟩;rw[←e3];intro w3 h3 g3;have hk3:∀k',st3=some k'→k<k':=fun k' x=>by rw[x] at e3;obtain⟨k0,Q,G⟩:=C8 e3.symm;obtain⟨n,I,done,y1,y2,y3,y4⟩:=N.out.2 k0 Q;have y5:=e1.out;rw[y1] at y5;have:=O1 y5.symm;have:=C9 G;omega
   have hb3:=h2.apart o (by decide) K g3;have hs3:=h2.apart hs2 (by decide) D g3;have hr3:=hd ((hr2.out.keep (by decide) (g3.sameU h2 (by omega) _)).wide (z5 _) (by have:=g3.size;omega:wr.heap.size≤w3.heap.size));have f3:=hd (f2.out.trans g3);have hz3:=g3.size;have he3:=hu.er he f3.out;replace e3:=hd e3;clear g3 hr2 f2 o hs2 h2;go_wp2_with (fail);refine A4y hS h3 he3 (fun k' x=>by have:=hk3 k' x;omega) _ ?_;obtain⟨r4,e4⟩:∃s,s=st3.bind (fun k=>sl k d):=⟨_,rfl⟩;rw[←e4];intro w4 ab S cb us4 uv4 h4 g4 hsl4 hn4 hq4;have hb4:=h3.apart hb3 (by decide) K g4;have hs4:=h3.apart hs3 (by decide) D g4;have hr4:=hd (hr3.out.keep (by decide) (g4.sameU h3 (by omega) _));have f4:=hd (f3.out.trans g4);have hz4:=g4.size;have a1:=A1 (i:=1) hb4 rfl;have fz1:=B2 (i:=1) hb4;have hzs:z≠w.heap.size:=(by omega);have hb5:=A4 (i:=1) hb4 (.slice ab S cb);have a50:(w4.setCell ⟨z,1,none⟩ (.slice ab S cb)).cell? ⟨z,0,none⟩=some (.slice E vs.length F):=A1 (i:=0) hb5 rfl;have a51:(w4.setCell ⟨z,1,none⟩ (.slice ab S cb)).cell? ⟨z,1,none⟩=some (.slice ab S cb):=A1 (i:=1) hb5 rfl;have t:(w4.setCell ⟨z,1,none⟩ (.slice ab S cb)).heap[w.heap.size]? =some (.cells #[.slice none 0 0,.slice none 0 0] 317):=(z0 _ _ _ _ (Ne.symm hzs)).trans hs4;have s0:=A1 (i:=0) t rfl;have s1:=A1 (i:=1) t rfl;have sf0:=B2 (i:=0) t;have sf1:=B2 (i:=1) t;have h5:=hd (h4.setNew hb4 (by decide) (by omega) 1 (.slice ab S cb));have f5:=hd (f4.out.setNew (show w.heap.size≤z by omega) 1 (.slice ab S cb));replace hsl4:=hd hsl4;replace hb5:=hd hb5;replace t:=hd t;replace h4:=hd h4;replace e4:=hd e4;clear g4 hr3 f3 hb3 hs3 f4 h3;go_wp2;obtain⟨W6,V⟩:∃W6,W6=(((w4.setCell ⟨z,1,none⟩ (.slice ab S cb)).setCell ⟨w.heap.size,0,none⟩ (.slice E vs.length F)).setCell ⟨w.heap.size,1,none⟩ (.slice ab S cb)):=⟨_,rfl⟩;have U:W6.heap[w.heap.size]? =some (.cells #[.slice E vs.length F,.slice ab S cb] 317):=(by rw[V];exact A4 (i:=1) (A4 (i:=0) t.out (.slice E vs.length F)) (.slice ab S cb));have r0':W6.cell? ⟨w.heap.size,0,none⟩=some (.slice E vs.length F):=A1 (i:=0) U rfl;have r1':W6.cell? ⟨w.heap.size,1,none⟩=some (.slice ab S cb):=A1 (i:=1) U rfl;have h6:Pu B bp pv L d (r4.map (·.2)) us4 uv4 W6:=(by rw[V];exact (h5.out.setNew t.out (by decide) (by omega) 0 _).setNew (A4 (i:=0) t.out _) (by decide) (by omega) 1 _);have f6:Fu bp uv uv4 w W6:=(by rw[V];exact (f5.out.setNew (z5 _) 0 _).setNew (z5 _) 1 _);have hsz6:W6.heap.size=w4.heap.size:=(by rw[V];simp only[World.size_setCell]);have H:∀lo hi g,z<lo→A02 w4 W6 lo hi g:=fun lo hi g hl b cur T _ h1 h2 _ _=>by rw[V,z0 _ _ _ _ (show b≠w.heap.size by omega),z0 _ _ _ _ (show b≠w.heap.size by omega),z0 _ _ _ _ (show b≠z by omega)]
   have hr6:C2 W6 w.heap.size w3.heap.size 2 1 (.slice E vs.length F) vs.length (A2t vs):=hr4.out.tagZ (fun b cur hc=>by
    have hbz:b≠z:=fun e=>by subst e;rw[hb4] at hc;injection hc with hc;injection hc with _ hc;exact absurd hc (by decide)
    have hbw:b≠w.heap.size:=fun e=>by subst e;rw[hs4] at hc;injection hc with hc;injection hc with _ hc;exact absurd hc (by decide)
    rw[V,z0 _ _ _ _ hbw,z0 _ _ _ _ hbw,z0 _ _ _ _ hbz])
   have hr:A3V L sl k d=r4.bind (fun b=>r2.bind (fun ms=>r1.bind (fun n=>some ((n.1::ms.1,b.1),b.2)))):=(by rw[e4.out,e3.out,←N.out.1,e2.out,e1.out];rfl);have hall:∀b k',r4=some (b,k')→∃n done I k2,r1=some (n,I)∧r2=some (done,k2)∧vs=n::done∧k<k':=fun b k' P=>by have y4:=e4.out;rw[P] at y4;obtain⟨k3,x3,_⟩:=C8 y4.symm;have y3:=e3.out;rw[x3] at y3;obtain⟨k0,x0,_⟩:=C8 y3.symm;obtain⟨n,I,done,z1,z2,z3,z4⟩:=N.out.2 k0 x0;have b1:=hk3 k3 x3;have b2:=hq4 k3 b k' x3 P;exact⟨n,done,I,k0,z1,z4,z2,by omega⟩
   have hinv:∀ns b k',A3V L sl k d=some ((ns,b),k')→r4=some (b,k')∧vs=ns∧k<k':=(by intro ns b k' x;rw[hr] at x;obtain⟨p,P,x⟩:=C8 x;obtain⟨ms,G,x⟩:=C8 x;obtain⟨m,Q,x⟩:=C8 x;obtain⟨n,done,I,k2,y1,y2,y3,y4⟩:=hall p.1 p.2 P;rw[y1] at Q;rw[y2] at G;injection Q with Q;injection G with G;subst Q;subst G;injection x with x;injection x with x x5;injection x with x x6;exact⟨by rw[P,←x5,←x6],by rw[y3,←x],by omega⟩);rw[←V];refine bodyPost_ret (v:=.agg #[.slice E vs.length F,.slice ab S cb]) (by simp[results,Tryz.results237,go_sem,r0',r1']) rfl ?_;refine fin.out _ _ _ _ _ _ _ us4 uv4 ?_ f6 ?_ ?_
   ·cases P:r4 with
    |none=>rw[P] at h6 hr;rw[hr];exact h6
    |some p=>
     obtain⟨n,done,I,k2,y1,y2,y3,y4⟩:=hall p.1 p.2 P;rw[P] at h6;rw[P,y2,y1] at hr;rw[hr];exact h6
   ·obtain⟨zs,p1,p2⟩:=hsl4.out;refine⟨w3.heap.size,vs,zs,by omega,by rw[hsz6];omega,hr6,?_,?_⟩
    ·rw[hsz6];exact p1.keep (by decide) (H _ _ _ (by omega))
    ·intro ns b k' x;obtain⟨P,x5,_⟩:=hinv ns b k' x;obtain⟨q1,q2⟩:=p2 b k' P;rw[hsz6];exact⟨x5,q1,q2.keep (H _ _ _ (by omega))⟩
   ·intro ns b k' x;obtain⟨P,x5,x6⟩:=hinv ns b k' x;exact⟨hn4 b k' P,x6⟩
  ·intro kc ec eC w2 h2 g2;subst ec;obtain⟨n0,I,done,Q,G,x3,P,x5,x6⟩:=hst.out kc rfl;have hkcl:=Ps.pa (u:Ps B bp pv L kc d us uv wr) |>.le;have hlen:vs.length≤1000000:=(by omega);obtain⟨g0,hg0⟩:∃g0,gk=g0+1:=⟨gk-1,by omega⟩;subst hg0;have x7:I0 L (g0+1) kc=(D2 L (kc+1)).bind (fun p=>(I0 L g0 p.2).bind (fun q=>some (p.1::q.1,q.2))):=(by rw[I0,if_pos eC]);rw[x7] at x6;have hvp:0<vs.length:=(by rw[G];simp);replace G:=hd G;replace Q:=hd Q;replace l:=hd l;have o:=u.apart hzb (by decide) K g2;have hs2:=hd (u.apart hres (by decide) D g2);have Z:w2.ownsRow w.heap.size 2 1 (.slice E vs.length F) vs.length (A2t vs):=A5 l.out (fun j hj _ _=>by obtain⟨cur,a⟩:=G6 l.out hj;exact (u.apart a (by decide) (by have:=(l.out.lt j hj).1;omega) g2).trans a.symm);have f2:=hd (hfu.out.trans g2);have he2:=hu.er he f2.out;have he2d:Er bp (w2.drewN 1):=he2.below (below_drewN (Below.refl _ w2) 1);have hz2:=g2.size;have a0:=A1 (i:=0) o rfl;have fz0:=B2 (i:=0) o;replace o:=hd o;replace Z:=hd Z;have Y:(Value.slice E vs.length F).ownBlock≠some z:=fun e=>by obtain⟨cur,a⟩:=G6 Z.out e;rw[o.out] at a;injection a with a;injection a with _ a;exact absurd a (by decide)
   replace Y:=hd Y;have hPD:=hd (h2.bel (below_drewN (Below.refl _ w2) 1));have X:some z≠(Value.slice E vs.length F).ownBlock:=fun e=>Y.out e.symm;replace X:=hd X;clear g2 l hfu hzb hst hsn;have hzl2:z<w2.heap.size:=(by omega);have C:∀J,Fu bp uv uv (w2.drewN 1) J→J.heap[z]? =some (.cells #[.slice E vs.length F,.slice none 0 0] 317)∧J.ownsRow w.heap.size 2 1 (.slice E vs.length F) vs.length (A2t vs):=fun J O=>
    ⟨hPD.out.apart (w':=J) o.out (by decide) K O,A5 (w:=w2.drewN 1) Z.out (fun j hj _ _=>by obtain⟨cur,a⟩:=G6 Z.out hj;exact (hPD.out.apart (w':=J) a (by decide) (by have:=(Z.out.lt j hj).1;omega) O).trans a.symm)⟩
   replace C:=hd C;have e8:(some (kc+1):Option Nat).bind (D2 L)=D2 L (kc+1):=rfl;replace x6:=hd x6;go_wp2_with (fail);go_region_law
    (first
     |(go_simp;go_at_call 239;refine B3V hL hPD.out he2d _ ?_;rw[e8];intro J m hm5 h5 O;have c50:J.cell? ⟨z,0,none⟩=some (.slice E vs.length F):=A1 (i:=0) (C.out _ O).1 rfl;have fz5:J.frozen? ⟨z,0,none⟩=false:=B2 (i:=0) (C.out _ O).1;have hz5:z<J.heap.size:=Nat.lt_of_lt_of_le hzl2 O.size;have c5a:(J.alloc (Obj.cells #[.int .i64 m] 2)).heap[z]? =some (.cells #[.slice E vs.length F,.slice none 0 0] 317):=(z6 _ _ _ hz5).trans (C.out _ O).1;replace c5a:=hd c5a;replace O:=hd O;replace h5:=hd h5;replace hm5:=hd hm5;go_simp)
     |(refine A0j (by rfl) _ _ 315 (by rfl) w.heap.size 2 _ 1 8 B6u B1k rfl (by omega) _ vs.length (A2t vs) (by rfl) (by exact (C.out _ O.out).2.alloc _) J.heap.size 1 1 [.int .i64 m] (by rfl) (by exact A2) rfl (B9S m) (by omega) (by unfold maxLen;omega) (by omega) (by simp;omega) ?_;intro g1 M w6 A c hat6;have cx:w6.cell? ⟨z,0,none⟩=some (.slice E vs.length F):=A6L c (A1 (i:=0) c5a.out rfl) X.out;have fx:w6.frozen? ⟨z,0,none⟩=false:=A6M c (B2 (i:=0) c5a.out) (by simp;omega) X.out;replace A:=hd A;replace c:=hd c;replace hat6:=hd hat6))
   all_goals
    have H:∀j,j<J.heap.size→(Value.slice E vs.length F).ownBlock≠some j→w6.heap[j]? =J.heap[j]? :=fun j hj hne=>(c.out.block j (by simp;omega) (fun e=>hne e.symm)).trans (z6 _ _ _ hj)
    have hz6:J.heap.size+1≤w6.heap.size:=by have:=c.out.size;simp at this;omega
    have h6:=h5.out.grow (w':=w6) (C.out _ O.out).2 (by decide) (by omega) (by omega) H
    have f6:Fu bp uv uv w w6:=(f2.out.trans (Fu.pre (below_drewN (Below.refl _ w2) 1) O.out)).grow (w':=w6) (lv:=Value.slice E vs.length F) c.out.os c.out.tape c.out.output (by omega) H (fun b hb=>((C.out _ O.out).2.lt b hb).1)
    have U:w6.heap[z]? =some (.cells #[.slice E vs.length F,.slice none 0 0] 317):=(H z hz5 Y.out).trans (C.out _ O.out).1
    have t:J.heap[w.heap.size]? =some (.cells #[.slice none 0 0,.slice none 0 0] 317):=hPD.out.apart (w':=J) hs2.out (by decide) D O.out
    have hs6:w6.heap[w.heap.size]? =some (.cells #[.slice none 0 0,.slice none 0 0] 317):=(H _ (by omega) (fun e=>by
     obtain⟨cur,a⟩:=G6 (C.out _ O.out).2 e;rw[t] at a;injection a with a;injection a with _ a;exact absurd a (by decide))).trans t
    have hne:B3f B bp pv L d r1 r2 us uv w z (w6.setCell ⟨z,0,none⟩ (.slice (some ⟨g1,0,none⟩) (vs.length+1) M)) g0:=by
     refine⟨⟨vs++[m],some ⟨g1,0,none⟩,M,(D2 L (kc+1)).map (·.2),?_,?_,?_,?_,?_⟩,f6.setNew (by omega) 0 _,?_⟩
     ·exact h6.setNew U (by decide) (by omega) 0 (.slice (some ⟨g1,0,none⟩) (vs.length+1) M)
     ·intro k' y1;obtain⟨m',y2⟩:=bmS y1;have hmm:=hm5.out m' k' y2;have hlt:=O1 y2;refine⟨n0,I,done++[m],Q.out,by rw[G.out];rfl,by omega,by simp;omega,by omega,?_⟩;have x8:=x6.out;rw[y2] at x8;simp only[Option.bind_some] at x8;rw[x8,hmm];cases I0 L g0 k' with
      |none=>rfl
      |some q=>simp
     ·intro y1;have x8:=x6.out;cases y2:D2 L (kc+1) with
      |none=>rw[y2] at x8;exact x8
      |some q=>rw[y2] at y1;cases y1
     ·have hg1:g1≠z:=fun e=>by obtain⟨cur,a⟩:=G6 A.out (j:=g1) rfl;rw[e,U] at a;injection a with a;injection a with _ a;exact absurd a (by decide)
      have ho:=A5 (w':=w6.setCell ⟨z,0,none⟩ (.slice (some ⟨g1,0,none⟩) (vs.length+1) M)) A.out (fun j hj _ _=>z0 _ _ _ _ (by simp only[Value.ownBlock,Option.some.injEq] at hj;show j≠z;omega));rw[List.length_append,List.length_cons,List.length_nil];unfold A2t at ho ⊢;rw[List.map_append];exact ho
     ·have:=A4 (i:=0) U (.slice (some ⟨g1,0,none⟩) (vs.length+1) M);rw[List.length_append];exact this
     ·exact (z0 _ _ _ _ (show w.heap.size≠z by omega)).trans hs6
    replace hne:=hd hne
    clear h6 f6 U t hs6 H A c hat6 cx fx c50 fz5
    go_wp2
    go_roundg g0
    case measure=>omega
    case rel=>exact hne.out
end Go.Proofs.YtidhiaaicmfabaaGreatDoor
