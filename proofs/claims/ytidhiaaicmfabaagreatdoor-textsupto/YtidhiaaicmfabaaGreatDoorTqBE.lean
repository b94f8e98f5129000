/- Texts (its parts, joined). -/
import Derived.Test.YtidhiaaicmfabaaGreatDoorTqBD
import Derived.Test.YtidhiaaicmfabaaGreatDoorTqBA
open Nat renaming le_refl→z0
open Option renaming bind_some→z4,map_some→z6
open Array renaming getElem?_eq_some_iff→z5
open List renaming append_assoc→z8,append_nil→y8
namespace Go.Proofs.YtidhiaaicmfabaaGreatDoor
open Go.RowKit Go.Proofs Go.Deep
set_option maxRecDepth 100000
set_option maxHeartbeats 4000000
open World renaming size_setCell→z7,ownsRow_nil→z9
open Below renaming heap_alloc→y7
def A2j (L:LB)(a:Nat→Nat→Option (Sl×Nat)):Nat→Nat→Nat→Option (Wl×Nat)
 |0,_,_=>none
 |f+1,k,d=>if B6 (A0 L k) A1D then (A3V L a (k+1) d).bind (fun p=>(A2j L a f p.2 d).bind (fun q=>some (.cons p.1.1 p.1.2 q.1,q.2))) else some (.nil,k)
def A6J (L:LB)(a:Nat→Nat→Option (Sl×Nat))(k d:Nat):Option (Q3×Nat):=
 let st1:=if d<10 then some k else none
 let r2:=st1.bind (fun k=>xE L k (d+1))
 let st3:=(r2.map (·.2)).bind (xS L wOF)
 let r4:=st3.bind (fun k=>A2j L a (L.length+1) k (d+1))
 let r5:=(r4.map (·.2)).bind (fun k=>A1u L a k (d+1))
 r5.bind (fun o=>r4.bind (fun b=>r2.bind (fun c=>some (.cas c.1 b.1 o.1,o.2))))
structure B75 (B bp:Nat)(pv:VL)(L:LB)(sl:Nat→Nat→Option (Sl×Nat))(d:Nat)(r2:Option (Ex×Nat))(r4:Option (Wl×Nat))(k:Nat)(us:LB)(uv:VL)(w:WD)(z lo0 lo:Nat)(vc:VL)(wr:WD)(gf:Nat):Prop where
 ex:∃nn ao cp xs st us' uv',Pu B bp pv L (d:Int) st us' uv' wr∧(∀k0,st=some k0→∃done,nn=done.len∧us'=us++O3 done∧k<k0∧nn≤k0∧(L.length<k0+gf∧d≤10)∧r4=(A2j L sl gf k0 d).map (fun q=>(done.app q.1,q.2))∧O5 (fun _=>0) (Value.slice ao nn cp).ownBlock done lo wr.heap.size wr xs)∧(st=none→r4=none)∧Fu bp uv uv' w wr∧wr.ownsRow lo 317 2 (.slice ao nn cp) nn xs∧wr.heap[z]? =some (.cells #[vc,.slice ao nn cp,.slice none 0 0] 314)∧ExU r2 lo0 z wr vc∧lo≤wr.heap.size
theorem C0E {L:LB}(hL:A0f L){O:Nat→Nat→Option (Sl×Nat)}{f:Nat}(hS:SlA L O f):StA L (A6J L O) f 226:=by
 intro w B bp pv k d us uv h he hd10 hk R fin;have hsm:=h.pa.sm;have hu:Pu B bp pv L (d:Int) (some k) us uv w:=h;have hle0:=h.pa.le;have hw0:=hu.lt;replace fin:=hd fin;clear h;go_enter_defers Tryz.func226,Tryz.ntmps226;go_wp2_with (fail);refine A58 hu (by omega) _ ?_;rw[A6l];obtain⟨st1,e1⟩:∃st,st=if d<10 then some k else none:=⟨_,rfl⟩;rw[←e1];intro w1 h1 hf1;have ed1:((d:Int)+1)=((d+1:Nat):Int):=(by omega);rw[ed1] at h1;have he1:=hu.er he hf1;have hk1:∀k',st1=some k'→d+1≤10∧k'=k:=fun k' e=>by rw[e] at e1;obtain⟨a,b⟩:=B1Q e1.symm;omega
 replace e1:=hd e1;go_wp2_with (fail);refine A7z (A9C hL (L.length+1)) h1 he1 (fun k' e=>by have:=hk1 k' e;omega) _ ?_;obtain⟨r2,e2⟩:∃r,r=st1.bind (fun k=>pE L (L.length+1) k (d+1)):=⟨_,rfl⟩;rw[←e2];intro w3 tc uc P uv3 h3 hn3 hq3 g3 hx3;have hk3:∀c k',r2=some (c,k')→d+1≤10∧k<k':=fun c k' e=>by rw[e] at e2;obtain⟨m,e9,_⟩:=C8 e2.symm;have a:=hk1 m e9;have:=hq3 m k' c e9 e;omega
 have hz1:=hf1.size;have hz3:=g3.size;have hlt3:=h3.lt;have hB3:=h3.le;have aa:bp≠w3.heap.size:=(by omega);have hf3:=hd (hf1.trans g3);have hxa:=hd (hx3.keep (w':=w3.alloc (.cells #[.iface tc uc,.slice none 0 0,.slice none 0 0] 314)) (fun b _ _ _ _ h2 _ _=>((Below.refl w3.heap.size w3).alloc (z0 _) _).block b h2));replace e2:=hd e2;clear hf1 g3 hx3 h1;go_wp2_with (fail);refine A0x (s:=wOF) (h3.alloc _) (by decide) _ ?_;obtain⟨st3,e3⟩:∃r,r=(r2.map (·.2)).bind (xS L wOF):=⟨_,rfl⟩;rw[←e3];intro w4 h4 g4;have hk4:∀k',st3=some k'→d+1≤10∧k<k':=fun k' e=>by rw[e] at e3;obtain⟨c,k2,e8,e9⟩:=A2p e3.symm;have:=C9 e9;have:=hk3 c k2 e8;omega
 have hb4:=(h3.alloc _).apart A2 (by decide) aa g4;have hx4:=hd (hxa.out.keep (g4.sameU (h3.alloc _) (by omega) _));have hz4:=g4.size;rw[World.size_alloc] at hz4;have hf4:=hd (hf3.out.trans ((Fu.of_below ((Below.refl _ w3).alloc (z0 _) _)).trans g4));clear g4 hf3 hxa h3;generalize hg:w3.heap.size=q at*;obtain⟨r4,e4⟩:∃r,r=st3.bind (fun k=>A2j L O (L.length+1) k (d+1)):=⟨_,rfl⟩;have C:B75 B bp pv L O (d+1) r2 r4 k P uv w q w.heap.size w4.heap.size (.iface tc uc) w4 (L.length+1):=by
  refine⟨0,none,0,[],st3,P,uv3,h4,?_,?_,hf4.out,z9 _ _ _ _,hb4,hx4.out.wide (by omega) (by omega),z0 _⟩
  ·intro m x;have:=hk4 m x;refine⟨.nil,rfl,by simp[O3],by omega,by omega,⟨by omega,by omega⟩,?_,rfl⟩;rw[e4,x];simp only[z4];cases A2j L O (L.length+1) m (d+1)<;>rfl
  ·intro x;rw[e4,x];rfl
 replace C:=hd C;replace hg:=hd hg;replace e3:=hd e3;replace e4:=hd e4;have hql:q<w4.heap.size:=(by omega);have hdd:∀m,st3=some m→d+1≤10:=fun m x=>(hk4 m x).1;have hdr:r4≠none→d+1≤10:=fun x=>by
  cases x3:st3 with
  |none=>exact absurd (by rw[e4.out,x3];rfl) x
  |some m=>exact hdd m x3
 clear hb4 h4 hx4 hf4 hdd;generalize w4.heap.size=lo at*;go_wp2;go_loopg [13] (L.length+1) (fun gk _ wr=>B75 B bp pv L O (d+1) r2 r4 k P uv w q w.heap.size lo (.iface tc uc) wr gk);case atStart=>exact C.out
 case round=>
  obtain⟨n,G,H,xs,st,Z,uvr,z,hst,ab,X,u,hqb,hxr,hlo⟩:=hrel;clear C;have hszr:=X.size;have hlt:=z.lt;have hle:=z.le;have hneq:bp≠q:=(by omega);have hqlt:=(z5.1 hqb).1;replace hst:=hd hst;replace ab:=hd ab;replace X:=hd X;replace hxr:=hd hxr;go_wp2_with (fail);refine A5j (s:=A1D) z (by decide) _ ?_ ?_;rotate_left
  ·intro eW A h5 E;have hst2:r4.map (·.2)=st∧∀m,st=some m→∃done,n=done.len∧Z=P++O3 done∧k<m∧r4=some (done,m)∧O5 (fun _=>0) (Value.slice G n H).ownBlock done lo wr.heap.size wr xs:=by
    cases st with
    |none=>rw[ab.out rfl];exact⟨rfl,fun m x=>by cases x⟩
    |some m=>
     obtain⟨done,x1,I,x3,N,U,x6,x7⟩:=hst.out m rfl;have e0:=eW m rfl;have x8:A2j L O gk m (d+1)=some (.nil,m):=by
      cases gk with
      |zero=>have:=Ps.pa (z:Ps B bp pv L m _ Z uvr wr) |>.le;omega
      |succ g=>rw[A2j,if_neg (by rw[e0];decide)]
     rw[x8] at x6;simp only[z6,Wl.app_nil] at x6;refine⟨by rw[x6];rfl,fun k9 x=>?_⟩;injection x with x;subst x;exact⟨done,x1,I,x3,x6,x7⟩
   have hrow:=hd (show C2 wr lo wr.heap.size 317 2 (.slice G n H) n xs from ⟨u,fun g hg=>(u.lt g hg).2⟩);have hb5:=z.apart hqb (by decide) hneq E;have hx5:=hd (hxr.out.keep (E.sameU z (by omega) _));have hr5:=hd (hrow.out.keep (by decide) (E.sameU z (by omega) _));have hw5:∀m,st=some m→∃done,n=done.len∧Z=P++O3 done∧k<m∧r4=some (done,m)∧O5 (fun _=>0) (Value.slice G n H).ownBlock done lo wr.heap.size A xs:=fun m x=>by obtain⟨done,x1,I,x3,N,U⟩:=hst2.2 m x;exact⟨done,x1,I,x3,N,U.keep (E.sameU z (by omega) _)⟩
   have f5:=hd (X.out.trans E);have hz5:=E.size;have he5:=hu.er he f5.out;have ag:=hst2.1;replace hw5:=hd hw5;clear E hrow hxr X hst2 hst ab u z;go_wp2_with (fail);refine B2m hS h5 he5 (fun m x=>by obtain⟨done,x1,I,x3,N,U⟩:=hw5.out m x;have:=hdr (by rw[N];exact fun h=>by cases h);omega) _ ?_;rw[←ag];obtain⟨r5,e5⟩:∃r,r=(r4.map (·.2)).bind (fun k=>A1u L O k (d+1)):=⟨_,rfl⟩;rw[←e5];intro w8 J n8 M us8 uv8 h8 g8 hs8 hn8 hq8;have hb8:=h5.apart hb5 (by decide) hneq g8;have hx8:=hx5.out.keep (g8.sameU h5 (by omega) _);have hr9:=hr5.out.keep (by decide) (g8.sameU h5 (by omega) _);have hz8:=g8.size;have hw9:∀m,st=some m→∃done,n=done.len∧Z=P++O3 done∧k<m∧r4=some (done,m)∧O5 (fun _=>0) (Value.slice G n H).ownBlock done lo wr.heap.size (w8.setCell ⟨q,2,none⟩ (.slice J n8 M)) xs:=fun m x=>by obtain⟨done,x1,I,x3,N,U⟩:=hw5.out m x;exact⟨done,x1,I,x3,N,(U.keep (g8.sameU h5 (by omega) _)).keep (D0 (.inl (by omega)))⟩
   have a2:=A1 (i:=2) hb8 rfl;have f2:=B2 (i:=2) hb8;have hbA:=hd (A4 (i:=2) hb8 (.slice J n8 M));have hA:=hd (h8.setNew hb8 (by decide) (by omega) 2 (.slice J n8 M));have hfA:=hd ((f5.out.trans g8).setNew (show w.heap.size≤q by omega) 2 (.slice J n8 M));have hsA:=hd (hs8.keep (D0 (b:=q) (i:=2) (v:=.slice J n8 M) (.inl (by omega))));have hrB:=hd (hr9.keep (by decide) (D0 (b:=q) (i:=2) (v:=.slice J n8 M) (.inl (by omega))));have hxA:=hd (hx8.keep (D0 (b:=q) (i:=2) (v:=.slice J n8 M) (.inr (by omega))));have r0':=A1 (i:=0) hbA.out rfl;have r1':=A1 (i:=1) hbA.out rfl;have r2':=A1 (i:=2) hbA.out rfl;have hA':=hA.out;rw[←ed1] at hA';have c2:=hA'.c2;have fz2:=hA'.f2;replace hA':=hd hA';replace hw9:=hd hw9;replace e5:=hd e5;replace ag:=hd ag;clear g8 hb8 f5 hs8 hr9 hx8 hr5 hw5 hx5 hA h5;replace h8:=hd h8;go_wp2;generalize hW:w8.setCell ⟨q,2,none⟩ (.slice J n8 M)=W at*;have hzW:W.heap.size=w8.heap.size:=(by rw[←hW];exact z7 _ _ _);refine leaves_cons (f:=235) (args:=#[.pointer (some ⟨bp,0,none⟩)]) (by simp) (by simp[go_sem]) ?_;refine (S9 _ bp ((d:Int)+1) (by omega) c2 fz2 .returning).mono ?_;rintro e' u' wz ⟨rfl,rfl,rfl⟩;refine⟨_,results_tmp rfl _ _ _,?_⟩;have ed:(d:Int)+1-1=d:=(by omega);rw[ed];have hzz:(W.setCell ⟨bp,2,none⟩ (.int .i64 d)).heap.size=w8.heap.size:=(z7 _ _ _).trans hzW;have ae:=hA'.out.dep d;have hfZ:=hfA.out.trans (A6D (bp:=bp) (w:=W) (uv:=uv8) d);have hr:A6J L O k d=r5.bind (fun o=>r4.bind (fun t=>r2.bind (fun c=>some (.cas c.1 t.1 o.1,o.2)))):=(by rw[e5.out,e4.out,e3.out,e2.out,e1.out];rfl);have hall:∀o k',r5=some (o,k')→∃done m c k2,r4=some (done,m)∧r2=some (c,k2)∧m<k'∧n=done.len∧Z=P++O3 done∧k<m∧O5 (fun _=>0) (Value.slice G n H).ownBlock done lo wr.heap.size W xs:=fun o k' U=>by have y5:=e5.out;rw[U] at y5;obtain⟨done,m,N,x6⟩:=A2p y5.symm;have S:=e4.out;rw[N] at S;obtain⟨k3,x3,_⟩:=C8 S.symm;have y3:=e3.out;rw[x3] at y3;obtain⟨c,k2,I,_⟩:=A2p y3.symm;have hs1:=ag.out;rw[N] at hs1;obtain⟨done',p1,p2,p3,p4,p5⟩:=hw9.out m hs1.symm;rw[N] at p4;injection p4 with p4;injection p4 with p4 _;subst p4;have b5:=hq8 m o k' (by rw[N];rfl) U;exact⟨done,m,c,k2,N,I,b5,p1,p2,p3,p5⟩
   have hinv:∀s k',A6J L O k d=some (s,k')→∃c t o k2 k4,r2=some (c,k2)∧r4=some (t,k4)∧r5=some (o,k')∧s=.cas c t o:=(by intro s k' e;rw[hr] at e;obtain⟨o,x1,e⟩:=C8 e;obtain⟨t,I,e⟩:=C8 e;obtain⟨c,x3,e⟩:=C8 e;injection e with e;injection e with e0 e;exact⟨c.1,t.1,o.1,c.2,t.2,x3,I,by rw[x1,←e],e0.symm⟩);refine A6 (fin.out _ 314 (.agg #[.iface tc uc,.slice G n H,.slice J n8 M]) us8 uv8 ?_ hfZ ?_ ?_) rfl
   ·cases es:r5 with
    |none=>rw[es] at ae hr;rw[hr];exact ae
    |some o=>
     obtain⟨done,m,c,k2,N,I,_⟩:=hall o.1 o.2 es;rw[es] at ae;rw[es,N,I] at hr;rw[hr];exact ae
   ·intro s k' e;obtain⟨c,t,o,k2,k4,I,N,U,rfl⟩:=hinv s k' e;obtain⟨done,m,c',k2',S,y2,y1,p1,p2,p3,p5⟩:=hall o k' U;rw[N] at S;injection S with S;injection S with S _;subst S;obtain⟨ys,p6,p7⟩:=hsA.out;obtain⟨q3,q4⟩:=p7 o k' U;subst p1;subst q3;refine⟨_,_,_,lo,A.heap.size,rfl,by omega,by omega,by omega,?_,⟨t.len,xs,?_,?_⟩,⟨ys,?_,?_⟩⟩
    ·exact ((hxA.out c k2 I).wide (z0 _) (by omega)).keep' (D0 (.inl (by omega)))
    ·exact (hrB.out.wide (z0 _) hz5).keep (by decide) (D0 (.inl (by omega)))
    ·exact (p5.wide (z0 _) hz5).keep (D0 (.inl (by omega)))
    ·rw[hzz];exact p6.keep (by decide) (D0 (.inl (by omega)))
    ·rw[hzz];exact q4.keep (D0 (.inl (by omega)))
   ·intro s k' e;obtain⟨c,t,o,k2,k4,I,N,U,rfl⟩:=hinv s k' e;obtain⟨done,m,c',k2',S,y2,y1,p1,p2,p3,p5⟩:=hall o k' U;rw[N] at S;injection S with S;injection S with S _;subst S;have b1:=hn3 c k2 I;have b3:=hn8 o k' U;refine⟨?_,by omega⟩;rw[b3,p2,b1];simp only[G0,z8]
  ·intro kc ec eW F h2 g2;subst ec;obtain⟨done,x1,I,x3,N,U,x6,x7⟩:=hst.out kc rfl;have hkcl:=Ps.pa (z:Ps B bp pv L kc _ Z uvr wr) |>.le;obtain⟨g0,hg0⟩:∃g0,gk=g0+1:=⟨gk-1,by omega⟩;subst hg0;have hd9:=U.2;have x8:A2j L O (g0+1) kc (d+1)=(A3V L O (kc+1) (d+1)).bind (fun p=>(A2j L O g0 p.2 (d+1)).bind (fun q=>some (.cons p.1.1 p.1.2 q.1,q.2))):=(by rw[A2j,if_pos eW]);rw[x8] at x6;have hlen:n≤1000000:=(by omega);replace u:=hd u;have K:=z.apart hqb (by decide) hneq g2;have ho2:F.ownsRow lo 317 2 (.slice G n H) n xs:=A5 u.out (fun j hj _ _=>by obtain⟨cur,l⟩:=G6 u.out hj;exact (z.apart l (by decide) (by have:=(u.out.lt j hj).1;omega) g2).trans l.symm);have hw2:=x7.keep (g2.sameU z (by omega) _);have hx2:=hxr.out.keep (g2.sameU z (by omega) _);have f2:=hd (X.out.trans g2);have he2:=hu.er he f2.out;have he2d:Er bp (F.drewN 1):=he2.below (below_drewN (Below.refl _ F) 1);have hz2:=g2.size;have a0:=A1 (i:=1) K rfl;have fz0:=B2 (i:=1) K;have hnbz:(Value.slice G n H).ownBlock≠some q:=fun e=>by obtain⟨cur,l⟩:=G6 ho2 e;rw[K] at l;injection l with l;injection l with _ l;exact absurd l (by decide)
   have af:some q≠(Value.slice G n H).ownBlock:=fun e=>hnbz e.symm;have ac:=h2.bel (below_drewN (Below.refl _ F) 1);have hql2:q<F.heap.size:=(by omega);have ad:∀g,(Value.slice G n H).ownBlock=some g→g<wr.heap.size:=fun g hg=>(u.out.lt g hg).2;have V:∀A uv5,Fu bp uvr uv5 (F.drewN 1) A→A.heap[q]? =some (.cells #[.iface tc uc,.slice G n H,.slice none 0 0] 314)∧A.ownsRow lo 317 2 (.slice G n H) n xs∧O5 (fun _=>0) (Value.slice G n H).ownBlock done lo wr.heap.size A xs∧ExU r2 w.heap.size q A (.iface tc uc):=fun A uv5 E=>
    ⟨ac.apart (w':=A) K (by decide) hneq E,A5 (w:=F.drewN 1) ho2 (fun j hj _ _=>by obtain⟨cur,l⟩:=G6 ho2 hj;exact (ac.apart (w':=A) l (by decide) (by have:=(ho2.lt j hj).1;omega) E).trans l.symm),O5.keep (w:=F.drewN 1) (O5.keep (w:=F) (w':=F.drewN 1) hw2 (fun _ _ _ _ _ _ _ _=>rfl)) (E.sameU ac (by omega) _),ExU.keep (w:=F.drewN 1) (ExU.keep (w:=F) (w':=F.drewN 1) hx2 (fun _ _ _ _ _ _ _ _=>rfl)) (E.sameU ac (by omega) _)⟩
   have hPs:Ps B bp pv L (kc+1) ((d+1:Nat):Int) Z uvr (F.drewN 1):=ac;replace V:=hd V;replace hnbz:=hd hnbz;replace af:=hd af;replace hPs:=hd hPs;replace ac:=hd ac;replace K:=hd K;replace ad:=hd ad;replace x1:=hd x1;replace I:=hd I;replace x6:=hd x6;clear g2 u X hqb hxr hw2 hx2 ho2 hst ab x7 h2 z;go_wp2_with (fail);refine B5I ?_;go_region_law
    (first
     |(go_simp;go_at_call 237;refine B84 hL hS hPs.out he2d hd9 (by omega) _ ?_;intro A na nl ncp ba bn bcp us5 uv5 h5 E hwh hn5;have c50:A.cell? ⟨q,1,none⟩=some (.slice G n H):=A1 (i:=1) (V.out _ _ E).1 rfl;have fz5:A.frozen? ⟨q,1,none⟩=false:=B2 (i:=1) (V.out _ _ E).1;have hz5:q<A.heap.size:=Nat.lt_of_lt_of_le hql2 E.size;have hz52:F.heap.size≤A.heap.size:=E.size;have c5a:(A.alloc (Obj.cells #[.slice na nl ncp,.slice ba bn bcp] 317)).heap[q]? =some (.cells #[.iface tc uc,.slice G n H,.slice none 0 0] 314):=(y7 _ _ _ hz5).trans (V.out _ _ E).1;replace c5a:=hd c5a;replace E:=hd E;replace h5:=hd h5;replace hwh:=hd hwh;replace hn5:=hd hn5;go_simp)
     |(refine A0j (by rfl) _ _ 312 (by rfl) lo 317 _ 2 48 B37 B1Y rfl (by omega) _ n xs (by rfl) (by exact (V.out _ _ E.out).2.1.alloc _) A.heap.size 1 1 [.slice na nl ncp,.slice ba bn bcp] (by rfl) (by exact A2) rfl (B8R _ _ _ _ _ _) (by omega) (by unfold maxLen;omega) (by omega) (by simp;omega) ?_;intro g1 Q w6 D y hat6;have cx:w6.cell? ⟨q,1,none⟩=some (.slice G n H):=A6L y (A1 (i:=1) c5a.out rfl) af.out;have fx:w6.frozen? ⟨q,1,none⟩=false:=A6M y (B2 (i:=1) c5a.out) (by simp;omega) af.out;replace D:=hd D;replace y:=hd y;replace hat6:=hd hat6))
   all_goals
    have Y:∀j,j<A.heap.size→(Value.slice G n H).ownBlock≠some j→w6.heap[j]? =A.heap[j]? :=fun j hj aa=>(y.out.block j (by simp;omega) (fun e=>aa e.symm)).trans (y7 _ _ _ hj)
    have hz6:A.heap.size+1≤w6.heap.size:=by have:=y.out.size;simp at this;omega
    obtain⟨kq5,ko5,kw5,kx5⟩:=V.out _ _ E.out
    have h6:=h5.out.grow (w':=w6) ko5 (by decide) (by omega) (by omega) Y
    have f6:Fu bp uv uv5 w w6:=(f2.out.trans (Fu.pre (below_drewN (Below.refl _ F) 1) E.out)).grow (w':=w6) (lv:=Value.slice G n H) y.out.os y.out.tape y.out.output (by omega) Y (fun b hb=>by have:=(ko5.lt b hb).1;omega)
    have hb6:w6.heap[q]? =some (.cells #[.iface tc uc,.slice G n H,.slice none 0 0] 314):=(Y q hz5 hnbz.out).trans kq5
    have hsame:∀l2 h2,h2≤A.heap.size→A02 A w6 l2 h2 (Value.slice G n H).ownBlock:=fun l2 h2 hh b cur T _ _ K hb3 _=>Y b (by omega) hb3
    have hown5:=ad.out
    have hsm0:A02 A w6 F.heap.size A.heap.size none:=fun b cur T _ hb1 K _ _=>Y b K (fun e=>by have:=hown5 b e;omega)
    have aa:B75 B bp pv L O (d+1) r2 r4 k P uv w q w.heap.size lo (.iface tc uc) (w6.setCell ⟨q,1,none⟩ (.slice (some ⟨g1,0,none⟩) (n+1) Q)) g0:=by
     refine⟨n+1,some ⟨g1,0,none⟩,Q,xs++[.slice na nl ncp,.slice ba bn bcp],(A3V L O (kc+1) (d+1)).map (·.2),us5,uv5,?_,?_,?_,f6.setNew (by omega) 1 _,?_,?_,?_,?_⟩
     ·exact h6.setNew hb6 (by decide) (by omega) 1 (.slice (some ⟨g1,0,none⟩) (n+1) Q)
     ·intro m y0;obtain⟨⟨ns,b⟩,y1⟩:=bmS y0;obtain⟨n1,n2⟩:=hn5.out ns b m y1;obtain⟨mm,vs,zs,p1,p2,hrn,hrb,hcond⟩:=hwh.out;obtain⟨p3,p4,hsb⟩:=hcond ns b m y1;subst p3;subst p4;have hnl:nl=vs.length:=(by have:=hrn.1.1;simp[A2t] at this;omega);subst hnl;have hoff:Off (some g1) F.heap.size A.heap.size∧(O5 (fun _=>0) (some g1) done lo wr.heap.size w6 xs):=by
       have kw6:=kw5.keep (hsame lo wr.heap.size (by omega));rcases hat6.out with e1|e1
       ·have e2:(Value.slice G n H).ownBlock=some g1:=e1;rw[e2] at kw6;exact⟨fun x hx=>.inl (by injection hx with hx;have:=hown5 g1 e2;omega),kw6⟩
       ·have:g1=A.heap.size+1:=(by simpa using e1);exact⟨fun x hx=>.inr (by injection hx with hx;omega),kw6.hole (fun x hx=>.inr (by injection hx with hx;omega))⟩
      have hrn6:=hrn.keep (by decide) (hsm0.sub (show F.heap.size≤(F.drewN 1).heap.size from z0 _) (show mm≤A.heap.size by omega) (by simp));have p1':F.heap.size≤mm:=p1;have hrb6:=hrb.keep (by decide) (hsm0.sub p1' (z0 _) (by simp));have hsb6:=hsb.keep (hsm0.sub (g':=(Value.slice ba b.len bcp).ownBlock) p1' (z0 _) (by simp));have ab:=O5.snoc (hi:=w6.heap.size) (ns:=vs) (b:=b) hrn6 hrb6 hsb6 p1' p2 (by omega) hoff.1 (show lo≤F.heap.size by omega) (hoff.2.wide (z0 _) hz2);refine⟨done.app (.cons vs b .nil),by rw[Wl.len_app,x1.out];rfl,?_,by omega,by omega,⟨by omega,hd9⟩,?_,?_⟩
      ·rw[n1,I.out,A4z];simp only[O3,y8,z8]
      ·have y6:=x6.out;rw[y1] at y6;simp only[z4] at y6;rw[y6];cases A2j L O g0 m (d+1) with
       |none=>rfl
       |some q=>simp only[z4,z6,Wl.app_assoc];rfl
      ·rw[z7];exact ab.keep (D0 (.inl (by omega)))
     ·intro y0;have y6:=x6.out;cases y1:A3V L O (kc+1) (d+1) with
      |none=>rw[y1] at y6;exact y6
      |some q=>rw[y1] at y0;cases y0
     ·have hg1:g1≠q:=fun e=>by obtain⟨cur,l⟩:=G6 D.out (j:=g1) rfl;rw[e,hb6] at l;injection l with l;injection l with _ l;exact absurd l (by decide)
      exact A5 (w':=w6.setCell ⟨q,1,none⟩ (.slice (some ⟨g1,0,none⟩) (n+1) Q)) D.out (fun j hj _ _=>Below.heap_setCell _ _ _ _ (by simp only[Value.ownBlock,Option.some.injEq] at hj;show j≠q;omega))
     ·exact A4 (i:=1) hb6 (.slice (some ⟨g1,0,none⟩) (n+1) Q)
     ·exact (kx5.keep (fun b cur T hT h1 h2 _ hc=>Y b (by omega) (fun e=>by have:=(ko5.lt b e).1;omega))).keep (D0 (.inr (by omega)))
     ·rw[z7];omega
    replace aa:=hd aa
    clear h6 f6 hb6 Y D y hat6 cx fx c50 fz5 hsm0 hsame kq5 ko5 kw5 kx5
    simp only[nrm]
    go_wp2
    go_roundg g0
    case measure=>omega
    case rel=>exact aa.out
section
theorem Z9.wide {kk:Ex→Int}{w:WD}:∀{s:Q3}{lo hi lo' hi':Nat}{v:VL},Z9 kk s lo hi w v→lo'≤lo→hi≤hi'→Z9 kk s lo' hi' w v
 |.set _ _,_,_,_,_,_,⟨ve,e1,h⟩,p,q=>⟨ve,e1,h.wide p q⟩
 |.setx _ _ _,_,_,_,_,_,⟨vi,ve,m,e1,h1,h2,h3,h4⟩,p,q=>⟨vi,ve,m,e1,by omega,by omega,h3.wide p (z0 _),h4.wide (z0 _) q⟩
 |.ife _ _ _,_,_,_,_,_,⟨vc,vt,vo,m1,m2,e1,h1,h2,h3,h4,h5,⟨ys,h7,h8⟩⟩,p,q=>⟨vc,vt,vo,m1,m2,e1,by omega,h2,by omega,h4.wide p (z0 _),h5,⟨ys,h7.wide (z0 _) q,h8.wide (z0 _) q⟩⟩
 |.cas _ _ _,_,_,_,_,_,⟨vc,vt,vo,m1,m2,e1,h1,h2,h3,h4,h5,⟨ys,h7,h8⟩⟩,p,q=>⟨vc,vt,vo,m1,m2,e1,by omega,h2,by omega,h4.wide p (z0 _),h5,⟨ys,h7.wide (z0 _) q,h8.wide (z0 _) q⟩⟩
 |.loop _ _ _ _,_,_,_,_,_,⟨vb,e1,⟨xs,h5,h6⟩⟩,p,q=>⟨vb,e1,⟨xs,h5.wide p q,h6.wide p q⟩⟩
def A0b (s:BA):Bool:=O7 s||B6 s wIF||B6 s J5||B6 s X3
def stP (L:LB)(sl:Nat→Nat→Option (Sl×Nat))(k d:Nat):Option (Q3×Nat):=
 if O7 (A0 L k) then A3O L k d else if B6 (A0 L k) wIF then A6T L sl (k+1) d else if B6 (A0 L k) J5 then A6J L sl (k+1) d else if B6 (A0 L k) X3 then A59 L sl (k+1) d else none
section
variable {B bp:Nat}{pv:VL}{L:LB}{st:Option Nat}{d:Nat}{us:LB}{uv:VL}{w:WD}{sl:Nat→Nat→Option (Sl×Nat)}{f:Nat}
theorem B5B (F:A0f L)(hS:SlA L sl f)(h:Pu B bp pv L (d:Int) st us uv w)(S:Er bp w)(hk:∀k,st=some k→d≤10∧L.length<k+1+f)(R:RP)(b:∀k,st=some k→A0b (A0 L k)=true→∀w' t u H M,Pu B bp pv L (d:Int) ((stP L sl k d).map (·.2)) H M w'→Fu bp uv M w w'→StU (stP L sl k d) w.heap.size w'.heap.size w' (.iface t u)→(∀s k',stP L sl k d=some (s,k')→H=us++G0 s∧k<k')→R (.returned (.tuple #[.iface t u,.bool true])) w')(V:(∀k,st=some k→A0b (A0 L k)=false)→∀w',Pu B bp pv L (d:Int) st us uv w'→Fu bp uv uv w w'→R (.returned (.tuple #[.nilIface,.bool false])) w'):Calls Tryz.prog 200 #[.pointer (some ⟨bp,0,none⟩)] w R:=by
 cases st with
 |none=>exact B5r (h:Pn B bp pv L d us uv w) R (V (fun k e=>by cases e))
 |some k=>
  obtain⟨g,hk1⟩:=hk k rfl;obtain⟨ha,hz⟩:=F.next k;have N:Ps B bp pv L k (d:Int) us uv w:=h;have hw0:=h.lt;replace b:=hd (b k rfl);replace V:=hd V;go_enter Tryz.func200,Tryz.ntmps200;go_wp2_with (fail);refine A7c N _ ?_;intro w1 h1 f1;go_wp2_with (fail);refine A1n _ _ ha (by omega) _ ?_;intro w2 b2;have h2:=h1.bel b2;have i:=f1.trans (Fu.of_below b2);have he2:=N.er S i;clear f1 b2 h1;cases y:O7 (A0 L k) with
  |true=>
   have z:stP L sl k d=A3O L k d:=(by unfold stP;rw[if_pos y]);rw[z] at b;have p:A0b (A0 L k)=true:=(by unfold A0b;rw[y];rfl);have hz2:=i.size;replace i:=hd i;go_wp2_with (fail);refine B95 F h2 he2 g (A0N y ha) _ ?_;intro w3 t u us3 ab r q J C;have D:=hd (i.out.trans q);have aa:=hd (show StU (A3O L k d) w.heap.size w3.heap.size w3 (.iface t u) from fun s k' e=>(J s k' e).wide hz2 (z0 _));replace r:=hd r;replace C:=hd C;clear q i J;go_wp2;exact A6 (b.out p _ t u us3 ab r.out D.out aa.out C.out) rfl
  |false=>
   replace i:=hd i;go_wp2_with (fail);refine A38 (s:=wIF) h2 (by decide) _ ?_ ?_
   ·intro e w3 r q;have z:stP L sl k d=A6T L sl (k+1) d:=(by unfold stP;rw[if_neg (by rw[y];decide),if_pos (T9 e)]);rw[z] at b;have p:A0b (A0 L k)=true:=(by unfold A0b;rw[T9 e];simp);have D:=hd (i.out.trans q);have Y:=N.er S D.out;have n:=D.out.size;clear q i;go_wp2_with (fail);refine B30 F hS r Y g (by omega) _ ?_;intro x t u l j o v c a;have G:=hd (D.out.trans v);have m:=hd (show StU (A6T L sl (k+1) d) w.heap.size x.heap.size x (.iface t u) from fun s k' e=>(c s k' e).wide n (z0 _));replace o:=hd o;replace a:=hd a;clear v c D r;go_wp2;exact A6 (b.out p _ t u l j o.out G.out m.out (fun s k' e=>⟨(a.out s k' e).1,by have:=(a.out s k' e).2;omega⟩)) rfl
   ·intro Z w3 r q;have O:=hd (i.out.trans q);clear q i;go_wp2_with (fail);refine A38 (s:=J5) r (by decide) _ ?_ ?_
    ·intro e w4 T K;have z:stP L sl k d=A6J L sl (k+1) d:=(by unfold stP;rw[if_neg (by rw[y];decide),if_neg (by rw[show B6 (A0 L k) wIF=false from Z];decide),if_pos (T9 e)]);rw[z] at b;have p:A0b (A0 L k)=true:=(by unfold A0b;rw[T9 e];simp);have Q:=hd (O.out.trans K);have X:=N.er S Q.out;have n:=Q.out.size;clear K O;go_wp2_with (fail);refine C0E F hS T X g (by omega) _ ?_;intro x t u l j o v c a;have G:=hd (Q.out.trans v);have m:=hd (show StU (A6J L sl (k+1) d) w.heap.size x.heap.size x (.iface t u) from fun s k' e=>(c s k' e).wide n (z0 _));replace o:=hd o;replace a:=hd a;clear v c Q T;go_wp2;exact A6 (b.out p _ t u l j o.out G.out m.out (fun s k' e=>⟨(a.out s k' e).1,by have:=(a.out s k' e).2;omega⟩)) rfl
    ·intro n4 w4 T K;have P:=hd (O.out.trans K);clear K O;go_wp2_with (fail);refine A38 (s:=X3) T (by decide) _ ?_ ?_
     ·intro e w5 E I;have z:stP L sl k d=A59 L sl (k+1) d:=(by unfold stP;rw[if_neg (by rw[y];decide),if_neg (by rw[show B6 (A0 L k) wIF=false from Z];decide),if_neg (by rw[show B6 (A0 L k) J5=false from n4];decide),if_pos (T9 e)]);rw[z] at b;have p:A0b (A0 L k)=true:=(by unfold A0b;rw[T9 e];simp);have U:=hd (P.out.trans I);have he5:=N.er S U.out;have n:=U.out.size;clear I P;go_wp2_with (fail);refine B8T F hS E he5 g (by omega) _ ?_;intro x t u l j o v c a;have G:=hd (U.out.trans v);have m:=hd (show StU (A59 L sl (k+1) d) w.heap.size x.heap.size x (.iface t u) from fun s k' e=>(c s k' e).wide n (z0 _));replace o:=hd o;replace a:=hd a;clear v c U E;go_wp2;exact A6 (b.out p _ t u l j o.out G.out m.out (fun s k' e=>⟨(a.out s k' e).1,by have:=(a.out s k' e).2;omega⟩)) rfl
     ·intro n5 w5 E I;have f5:=hd (P.out.trans I);clear I P;have p:A0b (A0 L k)=false:=(by unfold A0b;rw[y,show B6 (A0 L k) wIF=false from Z,show B6 (A0 L k) J5=false from n4,show B6 (A0 L k) X3=false from n5];rfl);have A:Pu B bp pv L (d:Int) (some k) us uv w5:=E;replace A:=hd A;clear E;go_wp2;exact A6 (V.out (fun k' e=>by injection e with e;subst e;exact p) _ A.out f5.out) rfl
end
end
def pSl (L:LB):Nat→Nat→Nat→Option (Sl×Nat)
 |0,_,_=>none
 |f+1,k,d=>if A0b (A0 L k) then (stP L (pSl L f) k d).bind (fun p=>(xS L wSC p.2).bind (fun a=>(pSl L f a d).bind (fun q=>some (.cons p.1 q.1,q.2)))) else some (.nil,k)
def A8P (L:LB)(f k d:Nat):Option (Sl×Nat):=(stP L (pSl L f) k d).bind (fun p=>(xS L wSC p.2).bind (fun a=>(pSl L f a d).bind (fun q=>some (.cons p.1 q.1,q.2))))
structure A7T (B bp:Nat)(pv:VL)(L:LB)(d:Nat)(r0:Option (Sl×Nat))(k:Nat)(us:LB)(uv:VL)(w:WD)(ao:Option Addr)(nn cp:Nat)(sv:VL)(ok:Bool)(wr:WD)(gf F:Nat):Prop where
 ex:∃xs a us' uv',Fu bp uv uv' w wr∧wr.ownsRow w.heap.size 240 1 (.slice ao nn cp) nn xs∧(∀g,(Value.slice ao nn cp).ownBlock=some g→g<a)∧w.heap.size≤a∧a≤wr.heap.size∧
  ((ok=false∧Pu B bp pv L (d:Int) (r0.map (·.2)) us' uv' wr∧∀l k',r0=some (l,k')→nn=l.len∧us'=us++E0 l∧k≤k'∧G1 (fun _=>0) (Value.slice ao nn cp).ownBlock l w.heap.size a wr xs)∨
   (ok=true∧gf≤F∧∃t u k0 done,sv=.iface t u∧k≤k0∧k0≤L.length∧nn≤k0∧nn=done.len∧L.length<k0+1+gf∧Pu B bp pv L (d:Int) ((stP L (pSl L gf) k0 d).map (·.2)) us' uv' wr∧StU (stP L (pSl L gf) k0 d) a wr.heap.size wr (.iface t u)∧(∀s k',stP L (pSl L gf) k0 d=some (s,k')→us'=us++E0 done++G0 s∧k0<k')∧G1 (fun _=>0) (Value.slice ao nn cp).ownBlock done w.heap.size a wr xs∧r0=(A8P L gf k0 d).map (fun q=>(done.app q.1,q.2))))
theorem B63 {L:LB}(hL:A0f L){F:Nat}(hI:∀f,f<F→SlA L (pSl L f) f):SlA L (pSl L F) F:=by
 intro w B bp pv k d us uv h he hd10 hk R fin;have hsm:=h.pa.sm;have hkl:=h.pa.le;have hu:Pu B bp pv L (d:Int) (some k) us uv w:=h;have hbw:=hu.lt;obtain⟨K,rfl⟩:∃K,F=K+1:=⟨F-1,by omega⟩;obtain⟨r0,er⟩:∃r,r=pSl L (K+1) k d:=⟨_,rfl⟩;rw[←er] at fin;replace fin:=hd fin;clear h;have er1:A0b (A0 L k)=true→r0=A8P L K k d:=fun e=>by rw[er,pSl,if_pos e];rfl
 have er2:A0b (A0 L k)=false→r0=some (.nil,k):=fun e=>by rw[er,pSl,if_neg (by rw[e];decide)]
 go_enter Tryz.func133,Tryz.ntmps133;go_wp2_with (fail);refine B5B hL (hI K (by omega)) hu he (fun k' e=>by injection e with e;omega) _ ?_ ?_;all_goals
  intro z1 z2
  first
   |(intro z3 w1 t u us1 uv1 h1 M hx1 hn1
     injection z2 with z2
     subst z2
     have C:A7T B bp pv L d r0 k us uv w none 0 0 (.iface t u) true w1 K K:=by
      refine⟨[],w.heap.size,us1,uv1,M,z9 _ _ _ _,by simp[Value.ownBlock],z0 _,M.size,.inr ⟨rfl,z0 _,t,u,k,.nil,rfl,z0 _,hkl,by omega,rfl,by omega,h1,hx1,?_,rfl,?_⟩⟩
      ·intro s k' e;obtain⟨P,y2⟩:=hn1 s k' e;exact⟨by rw[P];simp[E0],y2⟩
      ·rw[er1 z3];cases A8P L K k d<;>rfl
     obtain⟨sv,hsv⟩:∃sv,sv=Value.iface t u:=⟨_,rfl⟩
     rw[←hsv] at C
     obtain⟨okb,hokb⟩:∃b,b=true:=⟨_,rfl⟩
     rw[←hokb] at C
     replace C:=hd C
     clear h1 M hx1 hn1)
   |(intro h1 M
     have hr:=er2 (z1 k rfl)
     have C:A7T B bp pv L d r0 k us uv w none 0 0 .nilIface false z2 K K:=by
      refine⟨[],w.heap.size,us,uv,M,z9 _ _ _ _,by simp[Value.ownBlock],z0 _,M.size,.inl ⟨rfl,by rw[hr];exact h1,?_⟩⟩;intro l k' e;rw[hr] at e;injection e with e;injection e with e1 e2;subst e1;exact⟨rfl,by simp[E0],by omega,rfl⟩
     replace C:=hd C
     clear h1 M)
  go_wp2
  go_loopg [3,4,5] (K+1) (fun gk lv sv okv wr=>∃ok ao G cp J,(ok=true→J+1=gk)∧okv=.bool ok∧lv=.slice ao G cp∧A7T B bp pv L d r0 k us uv w ao G cp sv ok wr J K)
  case atStart=>first|exact⟨true,none,0,0,K,fun _=>rfl,rfl,rfl,by simpa[hsv,hokb] using C.out⟩|exact⟨false,none,0,0,K,(fun e=>by cases e),rfl,rfl,C.out⟩
  case round=>
   obtain⟨ok2,ao,G,cp,J,hgf,rfl,rfl,xs,a,us2,uv2,O,X,aa,ha1,ha2,hh⟩:=hrel
   clear C
   have hbw2:=O.size
   rcases hh with ⟨rfl,A,hq⟩|⟨rfl,hgF,t,u,k0,done,rfl,p1,p1',p2,p3,p4,A,hst,ac,hsl,hr0⟩
   ·have hsu:=hd (show SlU r0 w.heap.size wr.heap.size wr ao G cp from ⟨xs,⟨X,fun g hg=>(X.lt g hg).2⟩,fun l k' e=>⟨(hq l k' e).1,(hq l k' e).2.2.2.wide (z0 _) ha2⟩⟩);replace hq:=hd hq;replace A:=hd A;replace O:=hd O;clear X aa;go_wp2;exact A6 (fin.out _ ao G cp us2 uv2 A.out O.out hsu.out (fun l k' e=>(hq.out l k' e).2.1) (fun l k' e=>(hq.out l k' e).2.2.1)) rfl
   ·have hgk:=hgf rfl;have hlt:=A.lt;have hle:=A.le;have hlen:G≤1000000:=(by omega);have hr:=hd X;replace A:=hd A;replace O:=hd O;replace hsl:=hd hsl;replace hst:=hd hst;replace aa:=hd aa;replace hr0:=hd hr0;replace ac:=hd ac;replace p3:=hd p3;go_wp2_with (first|(at_builtin;refine I5 _ rfl _ _ 85 rfl w.heap.size 240 _ 1 16 B3W B2I rfl (by decide) _ G xs rfl (by exact hr.out.alloc _) ⟨wr.heap.size,0,none⟩ 1 1 [.iface t u] rfl rfl (by exact S5 (A6r (by simp))) (B8N _ _) (by unfold maxLen;omega) (by omega) (by simp;omega) ?_;intro v2 w2 m y hl2;obtain⟨D,E,rfl⟩:=A7 m;replace m:=hd m;replace y:=hd y;replace hl2:=hd hl2));have hk2:∀b,b<wr.heap.size→(Value.slice ao G cp).ownBlock≠some b→w2.heap[b]? =wr.heap[b]? :=fun i hi hne=>(y.out.block i (by simp;omega) (fun e=>hne e.symm)).trans (y7 _ _ _ hi);have hz2:wr.heap.size+1≤w2.heap.size:=(by have:=y.out.size;simp at this;omega);have U:=A.out.grow (w':=w2) hr.out (by decide) (Nat.le_trans hu.le (z0 _)) (by omega) hk2;have hfu2:=O.out.grow (w':=w2) y.out.os y.out.tape y.out.output (by omega) hk2 (fun b hb=>(hr.out.lt b hb).1);have N:∀lo hi,hi≤wr.heap.size→A02 wr w2 lo hi (Value.slice ao G cp).ownBlock:=fun lo hi hh b cur T _ _ h2 h3 _=>hk2 b (by omega) h3;have hst3:StU (stP L (pSl L J) k0 d) a wr.heap.size w2 (.iface t u):=fun s k' e=>(hst.out s k' e).keep (fun b cur T h0 h1 h2 h3 h4=>N a wr.heap.size (z0 _) b cur T h0 h1 h2 (fun e=>by have:=aa.out b e;omega) h4);have ae:G1 (fun _=>0) (Value.slice ao G cp).ownBlock done w.heap.size a w2 xs:=hsl.out.keep (N _ _ ha2);have Q:Off (Value.slice D (G+1) E).ownBlock a wr.heap.size∧G1 (fun _=>0) (Value.slice D (G+1) E).ownBlock done w.heap.size a w2 xs:=by
     rcases hl2.out with e|⟨e,_⟩
     ·rw[e];exact⟨fun x hx=>.inl (aa.out x hx),ae⟩
     ·have hge:∀x,(Value.slice D (G+1) E).ownBlock=some x→wr.heap.size≤x:=fun x hx=>by rw[e] at hx;injection hx with hx;simp at hx;omega
      exact⟨fun x hx=>.inr (hge x hx),ae.hole (fun x hx=>.inr (by have:=hge x hx;omega))⟩
    have S:∀s k',stP L (pSl L J) k0 d=some (s,k')→G1 (fun _=>0) (Value.slice D (G+1) E).ownBlock (done.app (.cons s .nil)) w.heap.size wr.heap.size w2 (xs++[.iface t u]):=fun s k' e=>G1.snoc (hst3 s k' e) ha2 (z0 _) Q.1 ha1 Q.2;replace S:=hd S;clear hst3 ae Q hst hsl A;refine A0x (s:=wSC) U (by decide) _ ?_;obtain⟨ab,es⟩:∃st,st=((stP L (pSl L J) k0 d).map (·.2)).bind (xS L wSC):=⟨_,rfl⟩;rw[←es];intro w3 h3 ad;have hk3:∀n,ab=some n→∃s k',stP L (pSl L J) k0 d=some (s,k')∧n=k'+1∧k0<k'∧xS L wSC k'=some n:=fun n x=>by rw[x] at es;obtain⟨s,k',P,y2⟩:=A2p es.symm;exact⟨s,k',P,(C9 y2).2,(ac.out s k' P).2,y2⟩
    have V:A8P L J k0 d=ab.bind (fun n=>(pSl L J n d).bind (fun q=>(stP L (pSl L J) k0 d).bind (fun p=>some (.cons p.1 q.1,q.2)))):=by
     rw[es];unfold A8P;cases stP L (pSl L J) k0 d with
     |none=>rfl
     |some p=>rfl
    have H:∀s k',stP L (pSl L J) k0 d=some (s,k')→G1 (fun _=>0) (Value.slice D (G+1) E).ownBlock (done.app (.cons s .nil)) w.heap.size wr.heap.size w3 (xs++[.iface t u]):=fun s k' e=>(S.out s k' e).keep (ad.sameU U (by omega) _);replace H:=hd H;have hz3:=ad.size;have c:=hd (A5 (w':=w3) m.out (fun j hj _ hjs=>by obtain⟨cur,v⟩:=G6 m.out hj;exact (U.apart v (by decide) (by have:=(m.out.lt j hj).1;omega) ad).trans v.symm));have I:=hd (hfu2.trans ad);have Y:∀g,(Value.slice D (G+1) E).ownBlock=some g→g<w3.heap.size:=fun g hg=>by have:=(m.out.lt g hg).2;omega
    replace Y:=hd Y;have he3:=hu.er he I.out;replace es:=hd es;replace V:=hd V;clear U hfu2 ad S m y hl2 hr hk2 N aa;obtain⟨g0,hg1⟩:∃g0,g0=J-1:=⟨_,rfl⟩;have hg0:∀n,ab=some n→J=g0+1∧n≤L.length:=fun n x=>by obtain⟨s,k',P,y2,y3,y4⟩:=hk3 n x;have hk1l:n≤L.length:=(by rw[x] at h3;exact Ps.pa (h3:Ps B bp pv L n _ us2 uv2 w3) |>.le);exact⟨by omega,hk1l⟩
    have Z:=h3;go_wp2_with (fail);refine B5B hL (hI g0 (by omega)) h3 he3 (fun n x=>by obtain⟨s,k',P,y2,y3,y4⟩:=hk3 n x;have:=hg0 n x;omega) _ ?_ ?_
    ·intro n x hbg w4 t4 u4 us4 uv4 h4 z hx4 hn4;obtain⟨s,k',P,y2,y3,y4⟩:=hk3 n x;obtain⟨y5,y6⟩:=hg0 n x;have hz4:=z.size;have o:A7T B bp pv L d r0 k us uv w D (G+1) E (.iface t4 u4) true w4 g0 K:=by
      refine⟨xs++[.iface t u],w3.heap.size,us4,uv4,I.out.trans z,?_,Y.out,by omega,hz4,.inr ⟨rfl,by omega,t4,u4,n,done.app (.cons s .nil),rfl,by omega,y6,by omega,?_,by omega,h4,hx4,?_,?_,?_⟩⟩
      ·exact A5 (w':=w4) c.out (fun j hj _ hjs=>by obtain⟨cur,v⟩:=G6 c.out hj;exact (Z.apart v (by decide) (by have:=(c.out.lt j hj).1;omega) z).trans v.symm)
      ·rw[Sl.len_app,←p3.out];rfl
      ·intro s9 k9 e9;obtain⟨z1,z2⟩:=hn4 s9 k9 e9;refine⟨?_,z2⟩;rw[z1,(ac.out s k' P).1,A2y];simp only[E0,y8,z8]
      ·exact ((H.out s k' P).keep (z.sameU Z (by omega) _)).wide (z0 _) (by omega)
      ·have e9:pSl L J n d=A8P L g0 n d:=(by rw[y5,pSl,if_pos hbg];rfl);rw[hr0.out,V.out,x];simp only[z4];rw[e9,P];simp only[z4];cases A8P L g0 n d with
       |none=>rfl
       |some q=>simp only[z4,z6,Sl.app_assoc];rfl
     replace o:=hd o;clear h4 z H c Y I h3 Z hx4 hn4;go_wp2;go_roundg (g0+1);case measure=>omega
     case rel=>exact⟨true,D,G+1,E,g0,fun _=>rfl,rfl,rfl,o.out⟩
    ·intro hbg w4 h4 z;have hz4:=z.size;have o:A7T B bp pv L d r0 k us uv w D (G+1) E .nilIface false w4 g0 K:=by
      have hmap:r0.map (·.2)=ab∧∀l k',r0=some (l,k')→∃s n,stP L (pSl L J) k0 d=some (s,n)∧l=done.app (.cons s .nil)∧k≤k':=by
       rw[hr0.out,V.out];cases x:ab with
       |none=>exact⟨rfl,fun l k' e=>by cases e⟩
       |some n=>
        obtain⟨s,k',P,y2,y3,y4⟩:=hk3 n x;obtain⟨y5,y6⟩:=hg0 n x;have e9:pSl L J n d=some (.nil,n):=(by rw[y5,pSl,if_neg (by rw[hbg n x];decide)]);simp only[z4];rw[e9,P];simp only[z4,z6];refine⟨trivial,fun l k9 e=>?_⟩;injection e with e;injection e with e1 e2;exact⟨s,k',rfl,e1.symm,by omega⟩
      refine⟨xs++[.iface t u],w3.heap.size,us2,uv2,I.out.trans z,?_,Y.out,by omega,hz4,.inl ⟨rfl,by rw[hmap.1];exact h4,?_⟩⟩
      ·exact A5 (w':=w4) c.out (fun j hj _ hjs=>by obtain⟨cur,v⟩:=G6 c.out hj;exact (Z.apart v (by decide) (by have:=(c.out.lt j hj).1;omega) z).trans v.symm)
      ·intro l k' e;obtain⟨s,n,P,rfl,y2⟩:=hmap.2 l k' e;refine⟨by rw[Sl.len_app,←p3.out];rfl,?_,y2,?_⟩
       ·rw[(ac.out s n P).1,A2y];simp only[E0,y8,z8]
       ·exact ((H.out s n P).keep (z.sameU Z (by omega) _)).wide (z0 _) (by omega)
     replace o:=hd o;clear h4 z H c Y I h3 Z;go_wp2;go_roundg 0;case measure=>omega
     case rel=>exact⟨false,D,G+1,E,g0,(fun e=>by cases e),rfl,rfl,o.out⟩
theorem slA {L:LB}(a:A0f L)(F:Nat):SlA L (pSl L F) F:=by
 induction F using Nat.strongRecOn with
 |ind F ih=>exact B63 a ih
section
def kdP (L:LB)(k:Nat):Option (Nat×Nat):=if B6 (A0 L k) A1E then some (0,k+1) else if B6 (A0 L k) A4l then some (1,k+1) else (xS L A1b k).map (fun k'=>(2,k'))
def tyP (L:LB)(k:Nat):Option ((Nat×Bool×Int)×Nat):=
 if B6 (A0 L k) N8 then some ((3,false,1),k+1)
 else if B6 (A0 L k) R3 then (A2n L (k+1)).bind (fun n=>(xS L wOF n.2).bind (fun a=>(kdP L a).map (fun c=>((c.1,true,n.1),c.2))))
 else (kdP L k).map (fun c=>((c.1,false,1),c.2))
def vdP (L:LB)(rl k:Nat):Option (Vd×Nat):=(((xN L k).bind (xS L wCO)).bind (tyP L)).bind (fun t=>(xS L wSC t.2).map (fun k'=>(⟨A0 L k,rl,t.1.1,t.1.2.1,t.1.2.2⟩,k')))
theorem B7l {L:LB}{rl:Nat}{st c b a:Option Nat}{f:Option ((Nat×Bool×Int)×Nat)}(j:c=st.bind (xN L))(i:b=c.bind (xS L wCO))(g:f=b.bind (tyP L))(l:a=(f.map (·.2)).bind (xS L wSC)):(st.bind (vdP L rl)).map (·.2)=a∧∀v k',st.bind (vdP L rl)=some (v,k')→∃k t,st=some k∧O7 (A0 L k)=true∧f=some t∧v=⟨A0 L k,rl,t.1.1,t.1.2.1,t.1.2.2⟩:=by
 subst l g i j;cases st with
 |none=>exact⟨rfl,fun v k' e=>by cases e⟩
 |some k=>
  simp only[z4];unfold vdP;cases h:xN L k with
  |none=>exact⟨rfl,fun v k' e=>by cases e⟩
  |some k1=>
   cases m:(some k1).bind (xS L wCO) with
   |none=>exact⟨rfl,fun v k' e=>by cases e⟩
   |some k2=>
    cases d:tyP L k2 with
    |none=>exact⟨by simp only[d,z4];rfl,fun v k' e=>by simp only[d,z4] at e;cases e⟩
    |some t=>
     simp only[d,z4,z6];cases n:xS L wSC t.2 with
     |none=>exact⟨rfl,fun v k' e=>by cases e⟩
     |some k5=>
      refine⟨rfl,fun v k' e=>⟨k,t,rfl,(A17 h).1,rfl,?_⟩⟩;injection e with e;injection e with e _;exact e.symm
section
variable {B bp:Nat}{pv:VL}{L:LB}{st:Option Nat}{d:Int}{us:LB}{uv:VL}{w:WD}
theorem B5c (h:Pu B bp pv L d st us uv w)(R:RP)(a:∀w' c,Pu B bp pv L d ((st.bind (kdP L)).map (·.2)) us uv w'→Fu bp uv uv w w'→(∀c' k',st.bind (kdP L)=some (c',k')→c=c')→R (.returned (.int .u8 ((c:Nat):Int))) w'):Calls Tryz.prog 199 #[.pointer (some ⟨bp,0,none⟩)] w R:=by
 replace a:=hd a;go_enter Tryz.func199,Tryz.ntmps199;go_wp2_with (fail);refine A5j (s:=A1E) h (by decide) _ ?_ ?_
 ·intro k b q w1 i f;have g:st.bind (kdP L)=some (0,k+1):=(by rw[b];simp only[z4];unfold kdP;rw[if_pos q]);rw[g] at a;replace i:=hd i;replace f:=hd f;go_wp2;exact A6 (a.out _ 0 i.out f.out (fun c' k' e=>by injection e with e;injection e)) rfl
 ·intro m w1 i f;go_wp2_with (fail);refine A5j (s:=A4l) i (by decide) _ ?_ ?_
  ·intro k b q v j l;have g:st.bind (kdP L)=some (1,k+1):=(by rw[b];simp only[z4];unfold kdP;rw[m k b,if_pos q];rfl);rw[g] at a;have u:=hd (f.trans l);replace j:=hd j;clear f l i;go_wp2;exact A6 (a.out _ 1 j.out u.out (fun c' k' e=>by injection e with e;injection e)) rfl
  ·intro p v j l;go_wp2_with (fail);refine A0x (s:=A1b) j (by decide) _ ?_;intro w3 o r;have g:st.bind (kdP L)=(st.bind (xS L A1b)).map (fun k'=>(2,k')):=by
    cases st with
    |none=>rfl
    |some k=>simp only[z4];unfold kdP;rw[m k rfl,p k rfl];rfl
   rw[g] at a;have n:((st.bind (xS L A1b)).map (fun k'=>((2:Nat),k'))).map (·.2)=st.bind (xS L A1b):=(by cases st.bind (xS L A1b)<;>rfl);rw[n] at a;have t:=hd ((f.trans l).trans r);replace o:=hd o;replace g:=hd g;replace n:=hd n;replace m:=hd m;replace p:=hd p;clear f l r i j;go_wp2;refine A6 (a.out _ 2 o.out t.out (fun c' k' e=>?_)) rfl;cases x:st.bind (xS L A1b) with
   |none=>rw[x] at e;cases e
   |some k2=>rw[x] at e;injection e with e;injection e
end
section
variable {B bp:Nat}{pv:VL}{L:LB}{st:Option Nat}{d:Int}{us:LB}{uv:VL}{w:WD}
theorem B9Z (hL:A0f L)(h:Pu B bp pv L d st us uv w)(he:Er bp w)(rl:Nat)(R:RP)(I:∀w' b vd,Pu B bp pv L d ((st.bind (vdP L rl)).map (·.2)) us uv w'→Fu bp uv uv w w'→w.heap.size≤b→w'.rowIs b 147 6 (vdF vd 0)→(∀v k',st.bind (vdP L rl)=some (v,k')→vd=v)→R (.returned (.pointer (some ⟨b,0,none⟩))) w'):Calls Tryz.prog 131 #[.pointer (some ⟨bp,0,none⟩),.int .u8 (rl:Int)] w R:=by
 have hB0:=h.le;have hbB:=h.blt;have aa:=fun H m N F=>hd (@B7l L rl st H m N F);replace I:=hd I;go_enter Tryz.func131,Tryz.ntmps131;go_wp2_with (fail);refine B9B hL h _ ?_;obtain⟨H,e1⟩:∃H,H=st.bind (xN L):=⟨_,rfl⟩;rw[←e1];intro w1 s hs h1 V;have g:bp≠w1.heap.size:=(by have:=h1.lt;omega);have hz1:=V.size;have he1:=h.er he V;replace hs:=hd hs;go_wp2_with (fail);refine A0x (s:=wCO) (h1.alloc _) (by decide) _ ?_;obtain⟨m,e2⟩:∃m,m=H.bind (xS L wCO):=⟨_,rfl⟩;rw[←e2];intro w2 h2 hf2;have T:=(h1.alloc _).apart A2 (by decide) g hf2;have X:=V.trans ((Fu.of_below ((Below.refl _ w1).alloc (z0 _) _)).trans hf2);obtain⟨F,e3⟩:∃F,F=m.bind (tyP L):=⟨_,rfl⟩;obtain⟨N,e4⟩:∃N,N=(F.map (·.2)).bind (xS L wSC):=⟨_,rfl⟩;obtain⟨hE1,J⟩:=(aa H m N F).out e1 e2 e3 e4;rw[hE1] at I;replace J:=hd J;clear V hf2 h1 hE1 aa e1 e2 he1;generalize w1.heap.size=b at*;go_wp2_with (fail);refine A5j (s:=N8) h2 (by decide) _ ?_ ?_
 ·intro k U eT w3 S A;have j:=h2.apart T (by decide) g A;have z:=X.trans A;have D:F=some ((3,false,1),k+1):=(by rw[e3,U];simp only[z4];unfold tyP;rw[if_pos eT]);have hm:F.map (·.2)=some (k+1):=(by rw[D];rfl);rw[hm] at e4;clear X A T h2 hm;have a2:=A1 (i:=2) j rfl;have f2:=B2 (i:=2) j;have hz3:b<w3.heap.size:=(z5.1 j).1;have Q:=hd (S.setNew j (by decide) (by omega) 2 (.int .u8 3));have o:=hd (A4 (i:=2) j (.int .u8 3));have p:=hd (z.setNew (show w.heap.size≤b by omega) 2 (.int .u8 3));replace S:=hd S;replace j:=hd j;replace D:=hd D;clear z;go_wp2_with (fail);refine A0x (s:=wSC) Q.out (by decide) _ ?_;rw[←e4];intro w6 M l;have a:=Q.out.apart o.out (by decide) g l;have r:=hd (p.out.trans l);replace M:=hd M;replace a:=hd a;clear l p;go_wp2;refine A6 (I.out _ b ⟨s,rl,3,false,1⟩ M.out r.out (by omega) (R5 a.out rfl (fun i hi=>?_)) (fun v k' e=>?_)) rfl
  ·have:i=0∨i=1∨i=2∨i=3∨i=4∨i=5:=(by omega);rcases this with rfl|rfl|rfl|rfl|rfl|rfl<;>rfl
  ·obtain⟨k0,t,x1,x2,E,x4⟩:=J.out v k' e;rw[D.out] at E;injection E with E;subst E;rw[x4,hs.out k0 x1 x2]
 ·intro n1 w3 S A;have j:=h2.apart T (by decide) g A;have z:=X.trans A;clear X A T h2;go_wp2_with (fail);refine A5j (s:=R3) S (by decide) _ ?_ ?_
  ·intro k U eT w4 h4 y;have f:=S.apart j (by decide) g y;have G:=z.trans y;have D:F=(A2n L (k+1)).bind (fun n=>(xS L wOF n.2).bind (fun k2=>(kdP L k2).map (fun c=>((c.1,true,n.1),c.2)))):=(by rw[e3,U];simp only[z4];unfold tyP;rw[n1 k U,if_pos eT];rfl);have he4:=h.er he G;clear z y j S;have a3:=A1 (i:=3) f rfl;have f3:=B2 (i:=3) f;have hz4:b<w4.heap.size:=(z5.1 f).1;have Q:=hd (h4.setNew f (by decide) (by omega) 3 (.bool true));have o:=hd (A4 (i:=3) f (.bool true));have p:=hd (G.setNew (show w.heap.size≤b by omega) 3 (.bool true));have a3':=A1 (i:=3) o.out rfl;have he5:=h.er he p.out;replace h4:=hd h4;replace f:=hd f;clear G he4;go_wp2_with (fail);refine C0g hL Q.out he5 _ ?_;have ex:(some (k+1):Option Nat).bind (A2n L)=A2n L (k+1):=rfl;rw[ex];obtain⟨rn,en⟩:∃rn,rn=A2n L (k+1):=⟨_,rfl⟩;rw[←en];rw[←en] at D;intro wa ln hln ha hfa;have x:=Q.out.apart o.out (by decide) g hfa;have ab:=p.out.trans hfa;have q4:=A1 (i:=4) x rfl;have fq4:=B2 (i:=4) x;have hza:b<wa.heap.size:=(z5.1 x).1;have hc:=hd (ha.setNew x (by decide) (by omega) 4 (.int .i64 ln));have hbc:=hd (A4 (i:=4) x (.int .i64 ln));have hfc:=hd (ab.setNew (show w.heap.size≤b by omega) 4 (.int .i64 ln));replace ha:=hd ha;replace x:=hd x;replace D:=hd D;replace hln:=hd hln;replace en:=hd en;clear hfa ab a3 f3 a3' ex;go_wp2_with (fail);refine A0x (s:=wOF) hc.out (by decide) _ ?_;intro we hE hfe;have hbe:=hd (hc.out.apart hbc.out (by decide) g hfe);have hff:=hd (hfc.out.trans hfe);clear hfe hfc p q4 fq4;go_wp2_with (fail);refine B5c hE _ ?_;obtain⟨P,Y⟩:∃P,P=((rn.map (·.2)).bind (xS L wOF)).bind (kdP L):=⟨_,rfl⟩;rw[←Y];intro w6 Z M l u;have a:=hE.apart hbe.out (by decide) g l;have r:=hff.out.trans l;have a2:=A1 (i:=2) a rfl;have f2:=B2 (i:=2) a;have h7:=hd (M.setNew a (by decide) (by omega) 2 (.int .u8 (Z:Int)));have K:=hd (A4 (i:=2) a (.int .u8 (Z:Int)));have O:=hd (r.setNew (show w.heap.size≤b by omega) 2 (.int .u8 (Z:Int)));have hz6:b<w6.heap.size:=(z5.1 a).1;have q:F.map (·.2)=P.map (·.2)∧∀t,F=some t→∃n c k2,rn=some n∧P=some (c,k2)∧t=((c,true,n.1),k2):=by
    rw[D.out,Y];cases rn with
    |none=>exact⟨rfl,fun t e=>by cases e⟩
    |some n=>
     simp only[z4,z6];cases xS L wOF n.2 with
     |none=>exact⟨rfl,fun t e=>by cases e⟩
     |some k2=>
      simp only[z4];cases kdP L k2 with
      |none=>exact⟨rfl,fun t e=>by cases e⟩
      |some c=>exact⟨rfl,fun t e=>⟨n,c.1,c.2,rfl,rfl,by injection e with e;exact e.symm⟩⟩
   rw[q.1] at e4;replace q:=hd q.2;replace M:=hd M;replace a:=hd a;replace u:=hd u;replace Y:=hd Y;clear r l hff o Q;go_wp2_with (fail);refine A0x (s:=wSC) h7.out (by decide) _ ?_;rw[←e4];intro w8 h8 C;have hb8:=hd (h7.out.apart K.out (by decide) g C);have hfG:=hd (O.out.trans C);replace h8:=hd h8;clear C O K h7;go_wp2;refine A6 (I.out _ b ⟨s,rl,Z,true,ln⟩ h8.out hfG.out (by omega) (R5 hb8.out rfl (fun i hi=>?_)) (fun v k' e=>?_)) rfl
   ·have:i=0∨i=1∨i=2∨i=3∨i=4∨i=5:=(by omega);rcases this with rfl|rfl|rfl|rfl|rfl|rfl<;>rfl
   ·obtain⟨k0,t,x1,x2,E,x4⟩:=J.out v k' e;obtain⟨n,c,k2,y1,y2,y3⟩:=q.out t E;rw[x4,hs.out k0 x1 x2,y3,u.out c k2 y2,hln.out n.1 n.2 y1]
  ·intro n2 w4 h4 y;have f:=S.apart j (by decide) g y;have G:=z.trans y;have D:F=(m.bind (kdP L)).map (fun c=>((c.1,false,1),c.2)):=by
    rw[e3];cases m with
    |none=>rfl
    |some k=>simp only[z4];unfold tyP;rw[n1 k rfl,n2 k rfl];rfl
   clear z y j S;have a3:=A1 (i:=3) f rfl;have f3:=B2 (i:=3) f;have hz4:b<w4.heap.size:=(z5.1 f).1;have Q:=hd (h4.setNew f (by decide) (by omega) 3 (.bool false));have o:=hd (A4 (i:=3) f (.bool false));have p:=hd (G.setNew (show w.heap.size≤b by omega) 3 (.bool false));have a3':=A1 (i:=3) o.out rfl;replace h4:=hd h4;replace f:=hd f;replace n1:=hd n1;replace n2:=hd n2;clear G;go_wp2_with (fail);refine B5c Q.out _ ?_;obtain⟨P,Y⟩:∃P,P=m.bind (kdP L):=⟨_,rfl⟩;rw[←Y];rw[←Y] at D;intro w6 Z M l u;have a:=Q.out.apart o.out (by decide) g l;have r:=p.out.trans l;have a2:=A1 (i:=2) a rfl;have f2:=B2 (i:=2) a;clear l p o Q a3 f3 a3';have h7:=hd (M.setNew a (by decide) (by omega) 2 (.int .u8 (Z:Int)));have K:=hd (A4 (i:=2) a (.int .u8 (Z:Int)));have O:=hd (r.setNew (show w.heap.size≤b by omega) 2 (.int .u8 (Z:Int)));have hz6:b<w6.heap.size:=(z5.1 a).1;have q:F.map (·.2)=P.map (·.2):=(by rw[D];cases P<;>rfl);rw[q] at e4;replace M:=hd M;replace a:=hd a;replace u:=hd u;replace D:=hd D;replace Y:=hd Y;replace q:=hd q;clear r;go_wp2_with (fail);refine A0x (s:=wSC) h7.out (by decide) _ ?_;rw[←e4];intro w8 h8 C;have hb8:=hd (h7.out.apart K.out (by decide) g C);have hfG:=hd (O.out.trans C);replace h8:=hd h8;clear C O K h7;go_wp2;refine A6 (I.out _ b ⟨s,rl,Z,false,1⟩ h8.out hfG.out (by omega) (R5 hb8.out rfl (fun i hi=>?_)) (fun v k' e=>?_)) rfl
   ·have:i=0∨i=1∨i=2∨i=3∨i=4∨i=5:=(by omega);rcases this with rfl|rfl|rfl|rfl|rfl|rfl<;>rfl
   ·obtain⟨k0,t,x1,x2,E,x4⟩:=J.out v k' e;rw[D.out] at E;cases hx:P with
    |none=>rw[hx] at E;cases E
    |some c=>
     rw[hx] at E;injection E with E;rw[x4,hs.out k0 x1 x2,←E,u.out c.1 c.2 hx]
end
end
end Go.Proofs.YtidhiaaicmfabaaGreatDoor
