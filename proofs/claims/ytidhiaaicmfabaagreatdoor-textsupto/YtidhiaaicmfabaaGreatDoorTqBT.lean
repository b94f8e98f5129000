/- Texts (its parts, joined). -/
import Derived.Test.YtidhiaaicmfabaaGreatDoorTqBS
open List renaming setIfInBounds_toArray→z0,set_cons_zero→z1,set_cons_succ→z2,length_append→z8,getElem?_eq_getElem→y8,getElem?_append_right→x0,length_cons→x4,length_nil→x6
open Array renaming getElem?_eq_some_iff→z3
open Bool renaming and_eq_true→z4,eq_iff_iff→x5
open Nat renaming le_refl→z6,zero_le→x3
open Option renaming toList_some→x7
namespace Go.Proofs.YtidhiaaicmfabaaGreatDoor
open Go.RowKit Go.Proofs Go.Deep
set_option maxRecDepth 100000
set_option maxHeartbeats 9000000
open Below renaming heap_setCell→z7,heap_alloc→y7
open World renaming size_setCell→z9,block_lt_of_cell?→y9
def hB (k n:Int):Bool:=if k=1 then inI n else inD n
theorem A9d (w:WD)(k n:Int)(R:RP)(a:R (.returned (.bool (hB k n))) w):Calls Tryz.prog 322 #[.int .u8 k,.int .i64 n] w R:=by
 unfold hB at a;by_cases e:k=1
 ·subst e;exact A3o w n R a
 ·rw[if_neg e] at a;have c:(k==1)=false:=(by simpa using e);replace a:=hd a;have b:=hd (B5f n);go_enter Tryz.func322,Tryz.ntmps322;go_wp2;refine A6 a.out ?_;show Value.bool _=Value.bool _;rw[←b.out]
theorem G5.own_str {bc bm:Nat}{d:Nat→Int}{vs:List Vd}{f:List Nat}{lv:VL}{ls:LB}{x:Bool}{w:WD}(h:G5 bc bm d vs f lv ls x w){b:Nat}(a:lv.ownBlock=some b):∃cur,w.heap[b]? =some (.cells cur 9 (0,0)):=by
 rcases h.loops.2 with ⟨c,_⟩|⟨g,cap,cur,c,_,e,_⟩
 ·rw[c] at a;cases a
 ·rw[c] at a;simp only[Value.ownBlock,Option.some.injEq] at a;subst a;exact⟨cur,e⟩
theorem G5.turn2 {bc bm:Nat}{d:Nat→Int}{vs:List Vd}{j:List Nat}{lv lv':VL}{ls ls':LB}{x:Bool}{w w':WD}(h:G5 bc bm d vs j lv ls x w)(i:∀b,b<w.heap.size→b≠bc→lv.ownBlock≠some b→w'.heap[b]? =w.heap[b]?)(f:w'.rowIs bc 149 3 (ckX bm lv' x))(l:w'.ownsRow 0 9 1 lv' ls'.length (N6 ls')):G5 bc bm d vs j lv' ls' x w':=by
 refine⟨f,?_,h.vars.keep (fun b cur _ g=>i b (z3.1 g).1 (h.ne g (by decide)) (h.own_ne g (by decide))),l,h.names⟩;obtain⟨D,⟨n,c,k,o⟩,m⟩:=h.nm;refine h.nm.keep (i bm h.nm.lt (fun e=>?_) (fun e=>?_))
 ·subst e;obtain⟨cur,a,_⟩:=h.ck;rw[k] at a;cases a
 ·obtain⟨cur,a⟩:=h.own_str e;rw[k] at a;cases a
theorem A3Y {bc bm:Nat}{lv lv':VL}{x:Bool}{w:WD}(h:w.rowIs bc 149 3 (ckX bm lv x)):(w.setCell ⟨bc,1,none⟩ lv').rowIs bc 149 3 (ckX bm lv' x):=
 (h.set 1 lv').congr (fun i _=>by unfold ckX;by_cases e:i=1<;>simp[e])
theorem B02 {vs:List Vd}{ls:LB}{s:BA}{f l:Int}{b:Sl}{v:Vd}(h:C1 vs s=some v):wtS vs ls (.loop s f l b)=((((v.role:Int)==2)&&B9 (v.kind:Int) && !v.arr && !(ls.any (fun x=>decide (s=x)))&&(hB (v.kind:Int) f&&hB (v.kind:Int) l))&&Q9 vs (ls++[s]) b):=by
 simp only[wtS,h];congr 1;generalize ls.any (fun x=>decide (s=x))=A;have e:((v.role:Int)==2)=decide (v.role=2):=(by rw[x5];simp only[beq_iff_eq,decide_eq_true_eq];omega);have g:(decide (v.kind=1)&&inI f&&inI l||decide (v.kind=2)&&inD f&&inD l)=(B9 (v.kind:Int)&&(hB (v.kind:Int) f&&hB (v.kind:Int) l)):=by
  unfold hB B9;by_cases a:v.kind=1
  ·rw[a];simp
  ·by_cases c:v.kind=2
   ·rw[c];simp
   ·have i:((v.kind:Int)==1)=false:=(by simp;omega);have d:((v.kind:Int)==2)=false:=(by simp;omega);simp only[a,c,i,d,decide_false,Bool.false_and,Bool.or_self]
 rw[e,g];cases decide (v.role=2)<;>cases B9 (v.kind:Int)<;>cases v.arr<;>cases A<;>simp
theorem G5.ex {bc bm:Nat}{a:Nat→Int}{vs:List Vd}{b:List Nat}{lv:VL}{ls:LB}{x:Bool}{w:WD}(h:G5 bc bm a vs b lv ls x w):∃X,X=x∧G5 bc bm a vs b lv ls X w:=⟨x,rfl,h⟩
theorem G5.cast {bc bm:Nat}{a:Nat→Int}{vs:List Vd}{b:List Nat}{lv:VL}{ls:LB}{x y:Bool}{w:WD}(h:G5 bc bm a vs b lv ls x w)(e:x=y):G5 bc bm a vs b lv ls y w:=e▸h
theorem B4Z {vs:List Vd}{ls:LB}{s:BA}{f l:Int}{b:Sl}(hn:knX vs (G0 (.loop s f l b))=true)(hb:A45 vs (ls++[s]) b)(hbl:b.len≤1000000)(hls:ls.length≤1000):A12 vs ls (.loop s f l b):=by
 intro bc bm lo hi t fst bs lv u x w hlh hib h hx R fin;obtain⟨vb,hvb,xs,hrow,hsl⟩:=hx;injection hvb with e1 M;subst e1 M;obtain⟨ao,cp,rfl⟩:=A7 hrow.1;simp only[sfn];obtain⟨v,hv⟩:=A2F hn (n:=s) (List.mem_cons_self ..);rw[B02 hv] at fin;obtain⟨Z,hZ⟩:∃Z,Z=w.alloc (Obj.cells #[.string s,.int .i64 f,.int .i64 l,.slice ao b.len cp] 320):=⟨_,rfl⟩;have hbZ:Below w.heap.size w Z:=(by rw[hZ];exact (Below.refl _ w).alloc (z6 _) _);have y:Z.heap[w.heap.size]? =some (.cells #[.string s,.int .i64 f,.int .i64 l,.slice ao b.len cp] 320):=(by rw[hZ];exact A2);have F:=h.below hbZ;obtain⟨j,bb,hrw,hlk0⟩:=F.look hv;have hlk:=fun n=>hlk0 (Z.drewN n) rfl;have p0:Z.cell? ⟨w.heap.size,0,none⟩=some (.string s):=A1 (i:=0) y rfl;have c0:Z.cell? ⟨bc,0,none⟩=some (.map (some bm)):=F.ck.cell (i:=0) (by omega);have lbZ:=F.ck.lt;have hzl:w.heap.size<Z.heap.size:=(z3.1 y).1;have L:w.heap.size≠bc:=F.ne y (by decide);have hbb:bb≠bc:=(by obtain⟨c,hc,_⟩:=hrw;exact F.ne hc (by decide));obtain⟨κ,hκ⟩:∃κ:Int,(v.kind:Int)=κ:=⟨_,rfl⟩;obtain⟨ρ,hρ⟩:∃ρ:Int,(v.role:Int)=ρ:=⟨_,rfl⟩;have hrw2:Z.rowIs bb 147 6 (fun i=>if i=1 then .int .u8 ρ else if i=2 then .int .u8 κ else if i=3 then .bool v.arr else vdF v (fst j) i):=hrw.congr (fun i hi=>by rw[←hκ,←hρ];have:i=0∨i=1∨i=2∨i=3∨i=4∨i=5:=(by omega);rcases this with rfl|rfl|rfl|rfl|rfl|rfl<;>rfl);rw[hκ,hρ] at fin;generalize v.arr=ar at*;have E:∀X:WD,X.heap[bb]? =Z.heap[bb]? →X.cell? ⟨bb,1,none⟩=some (.int .u8 ρ)∧X.cell? ⟨bb,2,none⟩=some (.int .u8 κ)∧X.cell? ⟨bb,3,none⟩=some (.bool ar)∧bb<X.heap.size:=fun X hX=>by have r:=hrw2.of_block hX;exact⟨r.cell (i:=1) (by omega),r.cell (i:=2) (by omega),r.cell (i:=3) (by omega),r.lt⟩
 have p:∀X:WD,X.heap[w.heap.size]? =Z.heap[w.heap.size]? →X.cell? ⟨w.heap.size,0,none⟩=some (.string s)∧X.cell? ⟨w.heap.size,1,none⟩=some (.int .i64 f)∧X.cell? ⟨w.heap.size,2,none⟩=some (.int .i64 l)∧w.heap.size<X.heap.size:=fun X hX=>by have hX2:=hX.trans y;exact⟨A1 (i:=0) hX2 rfl,A1 (i:=1) hX2 rfl,A1 (i:=2) hX2 rfl,(z3.1 hX2).1⟩
 have hrZ:=hd (hrow.below hbZ);have hsZ:=hd (hsl.belowZ hbZ);have hKZ:=hd (Kc.below (bc:=bc) (lo:=lo) (hi:=hi) (u:=lv) hbZ);replace fin:=hd fin;replace h:=hd h;replace hrow:=hd hrow;replace F:=hd F;replace y:=hd y;replace E:=hd E;replace p:=hd p;clear hsl hrw hrw2 hlk0 hn hv hκ hρ hbZ;go_enter Tryz.func325,Tryz.ntmps325;go_wp2_with (fail);rw[←hZ];replace hZ:=hd hZ;generalize hz:w.heap.size=z at*;replace hz:=hd hz;go_quiet (fail);obtain⟨Y,hY⟩:∃Y,Y=Z.drewN nq:=⟨_,rfl⟩;rw[←hY];have hYh:∀k:Nat,Y.heap[k]? =Z.heap[k]? :=fun k=>by rw[hY];rfl
 have hBY:Below Z.heap.size Z Y:=(by rw[hY];exact below_drewN (Below.refl _ Z) nq);have O:=F.out.below hBY;obtain⟨y1,y2,y3,ly⟩:=E.out Y (hYh bb);have hKY:=hd (hKZ.out.trans (Kc.below hBY));have hrY:=hd (hrZ.out.below hBY);have hsY:=hd (hsZ.out.belowZ hBY);have hnY:Y.heap[z]? =Z.heap[z]? :=hYh z;have hbY:Y.heap[bb]? =Z.heap[bb]? :=hYh bb;replace O:=hd O;replace hnY:=hd hnY;replace hbY:=hd hbY;replace hY:=hd hY;clear hYh hBY hrZ hsZ F hlk p0 c0 lbZ hzl hKZ;obtain⟨t1,h1⟩:∃t,(ρ==2)=t:=⟨_,rfl⟩;obtain⟨t2,h2⟩:∃t,B9 κ=t:=⟨_,rfl⟩;obtain⟨t3,h3⟩:∃t,hB κ f=t:=⟨_,rfl⟩;obtain⟨t4,h4⟩:∃t,hB κ l=t:=⟨_,rfl⟩;rw[h1,h2,h3,h4] at fin;rcases (show t1=false∨(t1=true∧t2=false)∨(t1=true∧t2=true) by cases t1<;>cases t2<;>simp) with rfl|⟨rfl,rfl⟩|⟨rfl,rfl⟩;all_goals
  rcases (show t3=true∨t3=false by cases t3<;>simp) with rfl|rfl
  ·as_aux_lemma=>
    go_wp2_with (first|(go_at_call 299;refine Q1 _ _ _ ?_;rw[h2]));refine J3 O.out _ _ ?_;intro w2 M k2;obtain⟨s0,s1,s2,lz2⟩:=p.out w2 ((k2.block z L).trans hnY.out);have c1:w2.cell? ⟨bc,1,none⟩=some lv:=M.ck.cell (i:=1) (by omega);have lb2:=M.ck.lt;have hn2:=hd ((k2.block z L).trans hnY.out);have hb2:=hd ((k2.block bb hbb).trans hbY.out);have hr2:=hd (hrY.out.wx k2 O.out (by decide));have hs2:=hd (hsY.out.wx k2 hib);have hK2:=hd (hKY.out.trans k2.kc);replace M:=hd M;clear k2 y1 y2 y3 ly;go_wp2_with (fail);go_region_held3 (fun w'=>w'.cell? ⟨z,0,none⟩=some (.string s)∧w'.cell? ⟨bc,1,none⟩=some lv) (first|exact⟨k3.out.cell L s0,e3.out.ck.cell (i:=1) (by omega)⟩|go_keep)
     (first
      |(go_at_call 313;refine A1r _ (by first|exact M.out.drew.loops|exact M.out.loops) s hls _ ?_)
      |(go_at_call 69;refine J3 (by first|exact M.out.drew|exact M.out) _ _ ?_;intro w3 e3 k3;replace e3:=hd e3;replace k3:=hd k3))
    have G:=k3.out.drew;have hn3:=(G.block z L).trans hn2.out;have hb3:=(G.block bb hbb).trans hb2.out;obtain⟨u0,u1,u2,lz3⟩:=p.out w3 hn3;obtain⟨d1,d2,d3,lb3⟩:=E.out w3 hb3;have hr3:=hd (hr2.out.wx G M.out (by decide));have hs3:=hd (hs2.out.wx G hib);have hK3:=hd (hK2.out.trans G.kc);replace hn3:=hd hn3;replace hb3:=hd hb3;clear k3 G s0 s1 s2 c1 lb2 lz2;go_wp2_with (fail);go_region_held3 (fun w'=>w'.cell? ⟨bb,2,none⟩=some (.int .u8 κ)∧w'.cell? ⟨z,1,none⟩=some (.int .i64 f)∧w'.cell? ⟨z,2,none⟩=some (.int .i64 l)) (first|exact⟨k4.out.cell hbb d2,k4.out.cell L u1,k4.out.cell L u2⟩|go_keep)
     (first
      |(go_at_call 322;refine A9d _ _ _ _ ?_;(first|rw[h3]|rw[h4]))
      |(go_at_call 69;refine J3 (by first|exact e3.out.drew|exact e3.out) _ _ ?_;intro w4 e4 k4;replace e4:=hd e4;replace k4:=hd k4))
    have aa:=k4.out.drew;have Q:=(aa.block z L).trans hn3.out;obtain⟨y0,_,_,zV⟩:=p.out w4 Q;obtain⟨X,hX,N⟩:=e4.out.ex;have I:=Q.trans y.out;have yc1:w4.cell? ⟨bc,1,none⟩=some lv:=N.ck.cell (i:=1) (by omega);have yf1:=N.ck.frozen 1;have lY:bc<w4.heap.size:=N.ck.lt;have hrV:=hr3.out.wx aa e3.out (by decide);have hsV:=hs3.out.wx aa hib;have hKV:=hK3.out.trans aa.kc;have H:some bc≠lv.ownBlock:=fun e=>by obtain⟨cur,h4⟩:=N.own_str e.symm;exact N.ne h4 (by decide) rfl
    have nbz:some z≠lv.ownBlock:=fun e=>N.own_ne I (by decide) e.symm;have hor:=N.loops;have y3:w4.cell? ⟨z,3,none⟩=some (.slice ao b.len cp):=A1 (i:=3) I rfl;obtain⟨lo1,lc1,rfl⟩:=A7 hor;replace hor:=hd hor;replace H:=hd H;replace nbz:=hd nbz;replace N:=hd N;replace hrV:=hd hrV;replace hsV:=hd hsV;replace hKV:=hd hKV;replace I:=hd I;replace hX:=hd hX;clear k4 aa e4 e3 M Q hn3 hb3 hr3 hs3 hK3 u0 u1 u2 lz3 d1 d2 d3 lb3 hr2 hs2 hK2 hn2 hb2 hrY hsY hKY hnY hbY O E p h1 h2 h3 h4;go_wp2_with (fail);go_region_law
     ((refine A0j (by rfl) _ _ 81 (by rfl) 0 9 _ 1 16 A2H A0t rfl (by omega) _ ls.length (N6 ls) (by rfl) (by exact (hor.out.alloc _).drew) w4.heap.size 1 1 [.string s] (by rfl) (by exact A8l rfl) rfl (A3r s) (by omega) (by unfold maxLen;omega) (by omega) (by simp) ?_;intro J m w1 q a D;have cx:w1.cell? ⟨bc,1,none⟩=some (.slice lo1 ls.length lc1):=A8I a (by exact A6x yc1 _) H.out;have fx:w1.frozen? ⟨bc,1,none⟩=false:=A8Y a (by exact A3q yf1 lY _) (by simp;omega) H.out;replace q:=hd q;replace a:=hd a;replace D:=hd D))
    all_goals
     have hgb:∀k,k<w4.heap.size→k≠bc→(Value.slice lo1 ls.length lc1).ownBlock≠some k→(w1.setCell ⟨bc,1,none⟩ (.slice (some ⟨J,0,none⟩) (ls.length+1) m)).heap[k]? =w4.heap[k]? :=fun k hk hne hno=>by
      rw[z7 _ _ _ _ hne];exact (a.out.block k (by simp;omega) (fun e=>hno e.symm)).trans (y7 _ _ _ hk)
     have hg1:J≠bc:=by
      rcases D.out with e|e
      ·intro M;subst M;exact H.out e.symm
      ·have:J=w4.heap.size+1:=(by simpa using e);omega
     have hsz1:w4.heap.size+1≤w1.heap.size:=by have:=a.out.size;simpa using this
     have V:G5 bc bm fst vs bs (.slice (some ⟨J,0,none⟩) (ls.length+1) m) (ls++[s]) X (w1.setCell ⟨bc,1,none⟩ (.slice (some ⟨J,0,none⟩) (ls.length+1) m)):=by
      refine N.out.turn2 hgb (A3Y (lv:=.slice lo1 ls.length lc1) (N.out.ck.of_block ((a.out.block bc (by simp;omega) H.out).trans (y7 _ _ _ lY)))) ?_;have ho:=A5 (w':=w1.setCell ⟨bc,1,none⟩ (.slice (some ⟨J,0,none⟩) (ls.length+1) m)) q.out (fun k hk _ _=>z7 _ _ _ _ (by simp only[Value.ownBlock,Option.some.injEq] at hk;show k≠bc;omega));rw[z8];simpa[N6] using ho
     have k5:∀lo hi,Kc bc lo hi (.slice lo1 ls.length lc1) (.slice (some ⟨J,0,none⟩) (ls.length+1) m) w4 (w1.setCell ⟨bc,1,none⟩ (.slice (some ⟨J,0,none⟩) (ls.length+1) m)):=by
      intro lo hi;refine⟨a.out.os,a.out.tape,a.out.output,by rw[z9];omega,fun k hk h1 h2 _=>hgb k hk h1 h2,?_⟩;rcases D.out with e|e
      ·exact .inl e.symm
      ·exact .inr ⟨J,rfl,by have:J=w4.heap.size+1:=(by simpa using e);omega⟩
     have hn5:=((k5 0 0).tagX N.out I.out (by decide) (by decide) (by decide)).trans I.out
     have y3:(w1.setCell ⟨bc,1,none⟩ (.slice (some ⟨J,0,none⟩) (ls.length+1) m)).cell? ⟨z,3,none⟩=some (.slice ao b.len cp):=A1 (i:=3) hn5 rfl
     have sm5:=(k5 0 0).sameX (g:=none) N.out (lo2:=lo) (hi2:=hi) (.inl (x3 _)) hib
     have hr5:=hrV.out.keep (by decide) sm5
     have hs5:=hsV.out.keep (fun b cur T h0 h1 h2 _ h4=>sm5 b cur T h0 h1 h2 (by simp) h4)
     have zb:z≠bc:=by omega
     have z5:z<(w1.setCell ⟨bc,1,none⟩ (.slice (some ⟨J,0,none⟩) (ls.length+1) m)).heap.size:=by rw[z9];omega
     have hgo:=fun (R':RP)=>A1y hb hbl V hr5.1 hs5 hlh hib R'
     replace hgo:=hd hgo
     replace V:=hd V
     replace k5:=hd k5
     replace hn5:=hd hn5
     replace hgb:=hd hgb
     clear hr5 hs5 sm5 q a D cx fx
     generalize hW5:w1.setCell ⟨bc,1,none⟩ (.slice (some ⟨J,0,none⟩) (ls.length+1) m)=W5 at*
     go_wp2_with (fail)
     refine hgo.out _ ?_
     intro w6 lv6 d k6 hs6
     have P:=d.loops
     rw[z8,x4,x6] at P
     obtain⟨g6,o,rfl,hc6,_⟩:=A2W P (by omega)
     rw[show N6 (ls++[s])=N6 ls++[.string s] by simp[N6]] at P
     have U:=ownsRow_pop (last:=[.string s]) (xs:=N6 ls) (n:=ls.length) (by simp[N6]) P
     have c61:w6.cell? ⟨bc,1,none⟩=some (.slice (some ⟨g6,0,none⟩) (ls.length+1) o):=d.ck.cell (i:=1) (by omega)
     have f61:=d.ck.frozen 1
     have l6:=d.ck.lt
     have hg6:g6≠bc:=fun e=>by
      obtain⟨cur,h4⟩:=d.own_str (b:=g6) rfl;exact d.ne h4 (by decide) e
     replace d:=hd d
     replace k6:=hd k6
     replace hs6:=hd hs6
     replace U:=hd U
     clear P hgo
     go_wp2_with (fail)
     go_region
     all_goals
      have hk7:∀k:Nat,k≠bc→((w6.setCell ⟨bc,1,none⟩ (.slice (some ⟨g6,0,none⟩) ls.length o)).drew).heap[k]? =w6.heap[k]? :=fun k hk=>z7 _ _ _ _ hk
      have env7:=d.out.turn2 (w':=(w6.setCell ⟨bc,1,none⟩ (.slice (some ⟨g6,0,none⟩) ls.length o)).drew) (lv':=.slice (some ⟨g6,0,none⟩) ls.length o) (ls':=ls) (fun k _ h1 _=>hk7 k h1) (A3Y d.out.ck) (A5 U.out (fun k hk _ _=>hk7 k (by
       simp only[Value.ownBlock,Option.some.injEq] at hk;omega)))
      have k7:Kc bc lo hi (.slice (some ⟨g6,0,none⟩) (ls.length+1) o) (.slice (some ⟨g6,0,none⟩) ls.length o) w6 ((w6.setCell ⟨bc,1,none⟩ (.slice (some ⟨g6,0,none⟩) ls.length o)).drew):=⟨rfl,rfl,rfl,by show w6.heap.size≤(w6.setCell _ _).heap.size;rw[z9];exact z6 _,fun k _ h1 _ _=>hk7 k h1,.inl rfl⟩
      have hs7:=fun hw=>(hs6.out hw).keep (w':=(w6.setCell ⟨bc,1,none⟩ (.slice (some ⟨g6,0,none⟩) ls.length o)).drew) (fun k _ _ _ _ h2 _ _=>hk7 k (by omega))
      have hkA:=hKV.out.trans (((k5.out lo hi).trans k6.out).trans k7)
      have hr7:=hrow.out.kcX hkA h.out (by decide) (by decide) (by decide)
      go_end0
      refine fin.out _ _ (env7.cast ?_) hkA (fun hw=>⟨_,rfl,xs,hr7,hs7 (by simp only[z4] at hw;exact hw.2)⟩)
      rw[hX.out]
      generalize Q9 vs (ls++[s]) b=B
      generalize (ls.any fun x=>decide (s=x))=A
      cases x<;>cases A<;>cases ar<;>cases B<;>cases t4<;>simp
  ·as_aux_lemma=>
    go_wp2_with (first|(go_at_call 299;refine Q1 _ _ _ ?_;rw[h2]));refine J3 O.out _ _ ?_;intro w2 M k2;obtain⟨s0,s1,s2,lz2⟩:=p.out w2 ((k2.block z L).trans hnY.out);have c1:w2.cell? ⟨bc,1,none⟩=some lv:=M.ck.cell (i:=1) (by omega);have lb2:=M.ck.lt;have hn2:=hd ((k2.block z L).trans hnY.out);have hb2:=hd ((k2.block bb hbb).trans hbY.out);have hr2:=hd (hrY.out.wx k2 O.out (by decide));have hs2:=hd (hsY.out.wx k2 hib);have hK2:=hd (hKY.out.trans k2.kc);replace M:=hd M;clear k2 y1 y2 y3 ly;go_wp2_with (fail);go_region_held3 (fun w'=>w'.cell? ⟨z,0,none⟩=some (.string s)∧w'.cell? ⟨bc,1,none⟩=some lv) (first|exact⟨k3.out.cell L s0,e3.out.ck.cell (i:=1) (by omega)⟩|go_keep)
     (first
      |(go_at_call 313;refine A1r _ (by first|exact M.out.drew.loops|exact M.out.loops) s hls _ ?_)
      |(go_at_call 69;refine J3 (by first|exact M.out.drew|exact M.out) _ _ ?_;intro w3 e3 k3;replace e3:=hd e3;replace k3:=hd k3))
    have G:=k3.out.drew;have hn3:=(G.block z L).trans hn2.out;have hb3:=(G.block bb hbb).trans hb2.out;obtain⟨u0,u1,u2,lz3⟩:=p.out w3 hn3;obtain⟨d1,d2,d3,lb3⟩:=E.out w3 hb3;have hr3:=hd (hr2.out.wx G M.out (by decide));have hs3:=hd (hs2.out.wx G hib);have hK3:=hd (hK2.out.trans G.kc);replace hn3:=hd hn3;replace hb3:=hd hb3;clear k3 G s0 s1 s2 c1 lb2 lz2;go_wp2_with (fail);refine wp_region_noPanic ?_;refine wp_region_held_drew (S:=fun w'=>w'.cell? ⟨bb,2,none⟩=some (.int .u8 κ)∧w'.cell? ⟨z,1,none⟩=some (.int .i64 f)) (by kernel_rfl) ⟨d2,u1⟩ (fun hHeld=>?_);refine J8 0 43 (v:=?_) rfl rfl (by kernel_rfl) (by kernel_rfl) (by kernel_rfl) (fun _ _ _ h=>h) (Or.inl ⟨by rfl,?_⟩) (by assumption) ?_;rotate_left
    ·intro w C;obtain⟨_,_⟩:=C;go_simp<;>rfl
    simp only[Act.put,z0,z1,z2];refine J8 1 44 (v:=?_) rfl rfl (by kernel_rfl) (by kernel_rfl) (by kernel_rfl) (fun _ _ _ h=>h) (Or.inl ⟨by rfl,?_⟩) (by assumption) ?_;rotate_left
    ·intro w C;obtain⟨_,_⟩:=C;go_simp<;>rfl
    simp only[Act.put,z0,z1,z2];refine J8 2 45 (v:=?_) rfl rfl (by kernel_rfl) (by kernel_rfl) (by kernel_rfl) (fun _ _ _ h=>h) (Or.inl ⟨by rfl,?_⟩) (by assumption) ?_;rotate_left
    ·intro w C;obtain⟨_,_⟩:=C;go_simp<;>rfl
    simp only[Act.put,z0,z1,z2];refine J8 3 46 (v:=?_) rfl rfl (by kernel_rfl) (by kernel_rfl) (by kernel_rfl) (fun _ _ _ h=>h) (Or.inl ⟨by rfl,?_⟩) (by assumption) ?_;rotate_left
    ·intro w C;obtain⟨_,_⟩:=C;go_simp<;>rfl
    simp only[Act.put,z0,z1,z2];refine J8 4 47 (v:=?_) rfl rfl (by kernel_rfl) (by kernel_rfl) (by kernel_rfl) (fun _ _ _ h=>h) (Or.inl ⟨by rfl,?_⟩) (by assumption) ?_;rotate_left
    ·intro w C;obtain⟨_,_⟩:=C;go_simp<;>rfl
    simp only[Act.put,z0,z1,z2];refine J8 5 48 (v:=?_) rfl rfl (by kernel_rfl) (by kernel_rfl) (by kernel_rfl) (fun _ _ _ h=>h) (Or.inl ⟨by rfl,?_⟩) (by assumption) ?_;rotate_left
    ·intro w C;obtain⟨_,_⟩:=C;go_simp<;>rfl
    simp only[Act.put,z0,z1,z2];refine J8 6 49 (v:=?_) rfl rfl (by kernel_rfl) (by kernel_rfl) (by kernel_rfl) (fun _ _ _ h=>h) (Or.inl ⟨by rfl,?_⟩) (by assumption) ?_;rotate_left
    ·intro w C;obtain⟨_,_⟩:=C;go_simp<;>rfl
    simp only[Act.put,z0,z1,z2];refine wpAnyH_ready (rs:=[7]) (by kernel_rfl) (by simp) ?_;refine AllReadyH.cons rfl (fun K hK=>?_) AllReadyH.nil;go_simp;refine A9d _ _ _ _ ?_;rw[h3];try go_simp
    refine hK.out _ _ ⟨d2,u1⟩ (fun hHeld=>?_);clear hK K;try simp only[Act.put,z0,z1,z2]
    refine J8 8 51 (v:=?_) rfl rfl (by kernel_rfl) (by kernel_rfl) (by kernel_rfl) (fun _ _ _ h=>h) (Or.inl ⟨by rfl,?_⟩) (by assumption) ?_;rotate_left
    ·intro w C;obtain⟨_,_⟩:=C;go_simp<;>rfl
    simp only[Act.put,z0,z1,z2];refine J8 9 52 (v:=undef) rfl rfl (by kernel_rfl) (by kernel_rfl) (by kernel_rfl) (fun _ _ _ h=>h) (Or.inr ⟨by rfl,rfl⟩) (by assumption) ?_;simp only[Act.put,z0,z1,z2];refine J8 10 53 (v:=undef) rfl rfl (by kernel_rfl) (by kernel_rfl) (by kernel_rfl) (fun _ _ _ h=>h) (Or.inr ⟨by rfl,rfl⟩) (by assumption) ?_;simp only[Act.put,z0,z1,z2];refine J8 11 54 (v:=undef) rfl rfl (by kernel_rfl) (by kernel_rfl) (by kernel_rfl) (fun _ _ _ h=>h) (Or.inr ⟨by rfl,rfl⟩) (by assumption) ?_;simp only[Act.put,z0,z1,z2];refine J8 12 55 (v:=undef) rfl rfl (by kernel_rfl) (by kernel_rfl) (by kernel_rfl) (fun _ _ _ h=>h) (Or.inr ⟨by rfl,rfl⟩) (by assumption) ?_;simp only[Act.put,z0,z1,z2];refine J8 13 56 (v:=undef) rfl rfl (by kernel_rfl) (by kernel_rfl) (by kernel_rfl) (fun _ _ _ h=>h) (Or.inr ⟨by rfl,rfl⟩) (by assumption) ?_;simp only[Act.put,z0,z1,z2];refine J8 14 57 (v:=undef) rfl rfl (by kernel_rfl) (by kernel_rfl) (by kernel_rfl) (fun _ _ _ h=>h) (Or.inr ⟨by rfl,rfl⟩) (by assumption) ?_;simp only[Act.put,z0,z1,z2];refine J8 15 58 (v:=undef) rfl rfl (by kernel_rfl) (by kernel_rfl) (by kernel_rfl) (fun _ _ _ h=>h) (Or.inr ⟨by rfl,rfl⟩) (by assumption) ?_;simp only[Act.put,z0,z1,z2];refine J8 16 59 (v:=?_) rfl rfl (by kernel_rfl) (by kernel_rfl) (by kernel_rfl) (fun _ _ _ h=>h) (Or.inl ⟨by rfl,?_⟩) (by assumption) ?_;rotate_left
    ·intro w C;obtain⟨_,_⟩:=C;go_simp<;>rfl
    simp only[Act.put,z0,z1,z2];refine wpAnyH_ready (rs:=[17]) (by kernel_rfl) (by simp) ?_;refine AllReadyH.cons rfl (fun K hK=>?_) AllReadyH.nil;go_simp;refine J3 (by exact e3.out.drew) _ _ ?_;intro w4 e4 k4;replace e4:=hd e4;replace k4:=hd k4;try go_simp
    refine hK.out _ _ ⟨k4.out.cell hbb d2,k4.out.cell L u1⟩ (fun hHeld=>?_);clear hK K;try simp only[Act.put,z0,z1,z2]
    refine wpAnyH_done (by kernel_rfl) ?_ _;refine NoPanic.normal ?_;clear hHeld;have aa:=k4.out.drew;have Q:=(aa.block z L).trans hn3.out;obtain⟨y0,_,_,zV⟩:=p.out w4 Q;obtain⟨X,hX,N⟩:=e4.out.ex;have I:=Q.trans y.out;have yc1:w4.cell? ⟨bc,1,none⟩=some lv:=N.ck.cell (i:=1) (by omega);have yf1:=N.ck.frozen 1;have lY:bc<w4.heap.size:=N.ck.lt;have hrV:=hr3.out.wx aa e3.out (by decide);have hsV:=hs3.out.wx aa hib;have hKV:=hK3.out.trans aa.kc;have H:some bc≠lv.ownBlock:=fun e=>by obtain⟨cur,h4⟩:=N.own_str e.symm;exact N.ne h4 (by decide) rfl
    have nbz:some z≠lv.ownBlock:=fun e=>N.own_ne I (by decide) e.symm;have hor:=N.loops;have y3:w4.cell? ⟨z,3,none⟩=some (.slice ao b.len cp):=A1 (i:=3) I rfl;obtain⟨lo1,lc1,rfl⟩:=A7 hor;replace hor:=hd hor;replace H:=hd H;replace nbz:=hd nbz;replace N:=hd N;replace hrV:=hd hrV;replace hsV:=hd hsV;replace hKV:=hd hKV;replace I:=hd I;replace hX:=hd hX;clear k4 aa e4 e3 M Q hn3 hb3 hr3 hs3 hK3 u0 u1 u2 lz3 d1 d2 d3 lb3 hr2 hs2 hK2 hn2 hb2 hrY hsY hKY hnY hbY O E p h1 h2 h3 h4;go_wp2_with (fail);go_region_law
     ((refine A0j (by rfl) _ _ 81 (by rfl) 0 9 _ 1 16 A2H A0t rfl (by omega) _ ls.length (N6 ls) (by rfl) (by exact (hor.out.alloc _).drew) w4.heap.size 1 1 [.string s] (by rfl) (by exact A8l rfl) rfl (A3r s) (by omega) (by unfold maxLen;omega) (by omega) (by simp) ?_;intro J m w1 q a D;have cx:w1.cell? ⟨bc,1,none⟩=some (.slice lo1 ls.length lc1):=A8I a (by exact A6x yc1 _) H.out;have fx:w1.frozen? ⟨bc,1,none⟩=false:=A8Y a (by exact A3q yf1 lY _) (by simp;omega) H.out;replace q:=hd q;replace a:=hd a;replace D:=hd D))
    all_goals
     have hgb:∀k,k<w4.heap.size→k≠bc→(Value.slice lo1 ls.length lc1).ownBlock≠some k→(w1.setCell ⟨bc,1,none⟩ (.slice (some ⟨J,0,none⟩) (ls.length+1) m)).heap[k]? =w4.heap[k]? :=fun k hk hne hno=>by
      rw[z7 _ _ _ _ hne];exact (a.out.block k (by simp;omega) (fun e=>hno e.symm)).trans (y7 _ _ _ hk)
     have hg1:J≠bc:=by
      rcases D.out with e|e
      ·intro M;subst M;exact H.out e.symm
      ·have:J=w4.heap.size+1:=(by simpa using e);omega
     have hsz1:w4.heap.size+1≤w1.heap.size:=by have:=a.out.size;simpa using this
     have V:G5 bc bm fst vs bs (.slice (some ⟨J,0,none⟩) (ls.length+1) m) (ls++[s]) X (w1.setCell ⟨bc,1,none⟩ (.slice (some ⟨J,0,none⟩) (ls.length+1) m)):=by
      refine N.out.turn2 hgb (A3Y (lv:=.slice lo1 ls.length lc1) (N.out.ck.of_block ((a.out.block bc (by simp;omega) H.out).trans (y7 _ _ _ lY)))) ?_;have ho:=A5 (w':=w1.setCell ⟨bc,1,none⟩ (.slice (some ⟨J,0,none⟩) (ls.length+1) m)) q.out (fun k hk _ _=>z7 _ _ _ _ (by simp only[Value.ownBlock,Option.some.injEq] at hk;show k≠bc;omega));rw[z8];simpa[N6] using ho
     have k5:∀lo hi,Kc bc lo hi (.slice lo1 ls.length lc1) (.slice (some ⟨J,0,none⟩) (ls.length+1) m) w4 (w1.setCell ⟨bc,1,none⟩ (.slice (some ⟨J,0,none⟩) (ls.length+1) m)):=by
      intro lo hi;refine⟨a.out.os,a.out.tape,a.out.output,by rw[z9];omega,fun k hk h1 h2 _=>hgb k hk h1 h2,?_⟩;rcases D.out with e|e
      ·exact .inl e.symm
      ·exact .inr ⟨J,rfl,by have:J=w4.heap.size+1:=(by simpa using e);omega⟩
     have hn5:=((k5 0 0).tagX N.out I.out (by decide) (by decide) (by decide)).trans I.out
     have y3:(w1.setCell ⟨bc,1,none⟩ (.slice (some ⟨J,0,none⟩) (ls.length+1) m)).cell? ⟨z,3,none⟩=some (.slice ao b.len cp):=A1 (i:=3) hn5 rfl
     have sm5:=(k5 0 0).sameX (g:=none) N.out (lo2:=lo) (hi2:=hi) (.inl (x3 _)) hib
     have hr5:=hrV.out.keep (by decide) sm5
     have hs5:=hsV.out.keep (fun b cur T h0 h1 h2 _ h4=>sm5 b cur T h0 h1 h2 (by simp) h4)
     have zb:z≠bc:=by omega
     have z5:z<(w1.setCell ⟨bc,1,none⟩ (.slice (some ⟨J,0,none⟩) (ls.length+1) m)).heap.size:=by rw[z9];omega
     have hgo:=fun (R':RP)=>A1y hb hbl V hr5.1 hs5 hlh hib R'
     replace hgo:=hd hgo
     replace V:=hd V
     replace k5:=hd k5
     replace hn5:=hd hn5
     replace hgb:=hd hgb
     clear hr5 hs5 sm5 q a D cx fx
     generalize hW5:w1.setCell ⟨bc,1,none⟩ (.slice (some ⟨J,0,none⟩) (ls.length+1) m)=W5 at*
     go_wp2_with (fail)
     refine hgo.out _ ?_
     intro w6 lv6 d k6 hs6
     have P:=d.loops
     rw[z8,x4,x6] at P
     obtain⟨g6,o,rfl,hc6,_⟩:=A2W P (by omega)
     rw[show N6 (ls++[s])=N6 ls++[.string s] by simp[N6]] at P
     have U:=ownsRow_pop (last:=[.string s]) (xs:=N6 ls) (n:=ls.length) (by simp[N6]) P
     have c61:w6.cell? ⟨bc,1,none⟩=some (.slice (some ⟨g6,0,none⟩) (ls.length+1) o):=d.ck.cell (i:=1) (by omega)
     have f61:=d.ck.frozen 1
     have l6:=d.ck.lt
     have hg6:g6≠bc:=fun e=>by
      obtain⟨cur,h4⟩:=d.own_str (b:=g6) rfl;exact d.ne h4 (by decide) e
     replace d:=hd d
     replace k6:=hd k6
     replace hs6:=hd hs6
     replace U:=hd U
     clear P hgo
     go_wp2_with (fail)
     go_region
     all_goals
      have hk7:∀k:Nat,k≠bc→((w6.setCell ⟨bc,1,none⟩ (.slice (some ⟨g6,0,none⟩) ls.length o)).drew).heap[k]? =w6.heap[k]? :=fun k hk=>z7 _ _ _ _ hk
      have env7:=d.out.turn2 (w':=(w6.setCell ⟨bc,1,none⟩ (.slice (some ⟨g6,0,none⟩) ls.length o)).drew) (lv':=.slice (some ⟨g6,0,none⟩) ls.length o) (ls':=ls) (fun k _ h1 _=>hk7 k h1) (A3Y d.out.ck) (A5 U.out (fun k hk _ _=>hk7 k (by
       simp only[Value.ownBlock,Option.some.injEq] at hk;omega)))
      have k7:Kc bc lo hi (.slice (some ⟨g6,0,none⟩) (ls.length+1) o) (.slice (some ⟨g6,0,none⟩) ls.length o) w6 ((w6.setCell ⟨bc,1,none⟩ (.slice (some ⟨g6,0,none⟩) ls.length o)).drew):=⟨rfl,rfl,rfl,by show w6.heap.size≤(w6.setCell _ _).heap.size;rw[z9];exact z6 _,fun k _ h1 _ _=>hk7 k h1,.inl rfl⟩
      have hs7:=fun hw=>(hs6.out hw).keep (w':=(w6.setCell ⟨bc,1,none⟩ (.slice (some ⟨g6,0,none⟩) ls.length o)).drew) (fun k _ _ _ _ h2 _ _=>hk7 k (by omega))
      have hkA:=hKV.out.trans (((k5.out lo hi).trans k6.out).trans k7)
      have hr7:=hrow.out.kcX hkA h.out (by decide) (by decide) (by decide)
      go_end0
      refine fin.out _ _ (env7.cast ?_) hkA (fun hw=>⟨_,rfl,xs,hr7,hs7 (by simp only[z4] at hw;exact hw.2)⟩)
      rw[hX.out]
      generalize Q9 vs (ls++[s]) b=B
      generalize (ls.any fun x=>decide (s=x))=A
      cases x<;>cases A<;>cases ar<;>cases B<;>cases t4<;>simp
theorem G5.flag {bc bm:Nat}{a:Nat→Int}{vs:List Vd}{b:List Nat}{lv:VL}{ls:LB}{x y:Bool}{w:WD}(h:G5 bc bm a vs b lv ls x w)(e:x=y):G5 bc bm a vs b lv ls y w:=e▸h
def A9l (vs:List Vd)(ls:LB):Wl→Prop
 |.nil=>True
 |.cons ns b t=>ns.length≤1000∧A45 vs ls b∧b.len≤1000000∧A9l vs ls t
theorem A4A (vs:List Vd)(ls:LB)(ns:List Int)(b:Sl):∀l:Wl,wtW vs ls (l.app (.cons ns b .nil))=(wtW vs ls l&&(ns.all inD&&Q9 vs ls b))
 |.nil=>by simp only[Wl.app,wtW,Bool.and_true,Bool.true_and]
 |.cons _ _ t=>by simp only[Wl.app,wtW,A4A vs ls ns b t,Bool.and_assoc]
structure CwX (vs:List Vd)(ls:LB)(bc bm:Nat)(fst:Nat→Int)(bs:List Nat)(lv0 lv:VL)(x1:Bool)(g:Option Nat)(l:Wl)(m1 m2:Nat)(xs:List VL)(w:WD)(i:Nat)(wr:WD)(rest:Wl):Prop where
 ex:∃done xs1 xs2 m,l=done.app rest∧xs=xs1++xs2∧i=done.len∧xs1.length=done.len*2∧(wtW vs ls done=true→O5 (kE vs) g done m1 m wr xs1)∧O5 (fun _=>0) g rest m m2 wr xs2∧m1≤m∧m≤m2∧G5 bc bm fst vs bs lv ls (x1 || !wtW vs ls done) wr
 kf:Kc bc m1 m2 lv0 lv w wr
 ok:A9l vs ls rest
theorem B60 {vs:List Vd}{ls:LB}{e:Ex}{s:Wl}{o:Sl}(he:S2 vs e)(p:A9l vs ls s)(hwl:s.len≤1000)(ho:A45 vs ls o)(hol:o.len≤1000000):A12 vs ls (.cas e s o):=by
 intro bc bm lo hi tt U bs lv u x w hlh hib h hx R fin;obtain⟨vc,vw,vo,m1,m2,hv,q1,q2,q3,hxc,⟨n,xs,hrw,hsw⟩,⟨ys,hro,hso⟩⟩:=hx;obtain rfl:=hrw.nW hsw;injection hv with e1 e2;subst e1 e2;obtain⟨tc,uc,rfl⟩:=hxc.iface;obtain⟨wa,Y,rfl⟩:=A7 hrw.1;obtain⟨oa,ocp,rfl⟩:=A7 hro.1;simp only[sfn];have hwt:wtS vs ls (.cas e s o)=(N9 vs e&&B9 (kE vs e)&&wtW vs ls s&&Q9 vs ls o):=(by simp only[wtS]);rw[hwt] at fin;have me:=R1 hxc;have me1:=me.m;have me2:=me.c;obtain⟨Z,hZ⟩:∃Z,Z=w.alloc (Obj.cells #[.iface tc uc,.slice wa s.len Y,.slice oa o.len ocp] 314):=⟨_,rfl⟩;have H:Below w.heap.size w Z:=(by rw[hZ];exact (Below.refl _ w).alloc (z6 _) _);have l:Z.heap[w.heap.size]? =some (.cells #[.iface tc uc,.slice wa s.len Y,.slice oa o.len ocp] 314):=(by rw[hZ];exact A2);have f:=h.below H;have p0:Z.cell? ⟨w.heap.size,0,none⟩=some (.iface tc uc):=A1 (i:=0) l rfl;have cE:=hd (@he bc bm lo m1 tc U bs lv uc ls x Z (by omega) f (hxc.keep (w':=Z) (fun b cur _ _ hc=>H.block b (z3.1 hc).1)));generalize kfn e=FE at*;have hzb:w.heap.size≠bc:=f.ne l (by decide);have hrwZ:=hd (hrw.below H);have hroZ:=hd (hro.below H);have hswZ:=hd (hsw.belowZ H);have hsoZ:=hd (hso.belowZ H);have hKZ:=hd (Kc.below (bc:=bc) (lo:=lo) (hi:=hi) (u:=lv) H);replace fin:=hd fin;replace f:=hd f;replace l:=hd l;clear hrw hro hsw hso hxc he me H hwt;go_enter Tryz.func319,Tryz.ntmps319;go_wp2_with (fail);rw[←hZ];replace hZ:=hd hZ;generalize w.heap.size=z at*;refine cE.out _ ?_;intro w0 k e0 k0 hk0;have hn0:=(k0.tagX f.out l.out (by decide) (by decide) (by decide)).trans l.out;have hrw0:=hd (hrwZ.out.kcX k0 f.out (by decide) (by decide) (by decide));have hro0:=hd (hroZ.out.kcX k0 f.out (by decide) (by decide) (by decide));have hsw0:=hd (hswZ.out.keep (k0.sameX f.out (.inl (z6 _)) (by omega)));have hso0:=hd (hsoZ.out.kcX k0 f.out (.inl (by omega)) hib);have hK0:=hd (hKZ.out.trans (k0.wide (z6 _) (by omega)));replace e0:=hd e0;replace hn0:=hd hn0;replace hk0:=hd hk0;clear hrwZ hroZ hswZ hsoZ k0 cE;go_wp2_with (first|(go_at_call 299;refine Q1 _ _ _ ?_));refine J3 e0.out _ _ ?_;intro w1 e1 k1;rw[xw1 (b':=B9 (kE vs e)) (fun p=>by rw[(hk0.out p).1])] at e1;have P:=(k1.block z hzb).trans hn0.out;have p11:w1.cell? ⟨z,1,none⟩=some (.slice wa s.len Y):=A1 (i:=1) P rfl;have hz1:z<w1.heap.size:=(z3.1 P).1;have hrw1:=hd (hrw0.out.wx k1 e0.out (by decide));have hro1:=hd (hro0.out.wx k1 e0.out (by decide));have hsw1:=hsw0.out.keep (w':=w1) (fun b _ _ _ _ h4 _ _=>k1.block b (by omega));have hso1:=hd (hso0.out.wx k1 hib);have hx1:=hd (fun p=>k1.ex (hk0.out p).2 (show m1≤bc by omega));have hK1:=hd (hK0.out.trans k1.kc);obtain⟨x1,ex1⟩:∃x1,x1=(x || !(N9 vs e&&B9 (kE vs e))):=⟨_,rfl⟩;rw[←ex1] at e1;have r:CwX vs ls bc bm U bs lv lv x1 (Value.slice wa s.len Y).ownBlock s m1 m2 xs w1 0 w1 s:=⟨⟨.nil,[],xs,m1,rfl,rfl,rfl,rfl,fun _=>rfl,hsw1,z6 _,q2,by rw[show wtW vs ls .nil=true from rfl,Bool.not_true,Bool.or_false];exact e1⟩,Kc.refl _ _ _ _ _,p⟩;replace r:=hd r;have F:=hd e1;replace P:=hd P;replace ex1:=hd ex1;clear hrw0 hro0 hsw0 hso0 hsw1 k1 e1 hK0 e0 hn0;go_wp2;go_loopw [5,7,18] (fun _ _ iv wr=>∃(i:Nat) (N:Wl) (lvr:VL),iv=.int .i64 (i:Int)∧CwX vs ls bc bm U bs lv lvr x1 (Value.slice wa s.len Y).ownBlock s m1 m2 xs w1 i wr N) (fun _ _ iv _=>s.len-(intOf iv).toNat);case atStart=>exact⟨0,s,lv,rfl,r.out⟩
 case round=>
  obtain⟨i,N,lvr,rfl,⟨done,xs1,xs2,m,G,J,V,D,hs1,hs2,hm1,hm2,d⟩,v,hok⟩:=hrel;rename WD=>wr;have Q:s.len=done.len+N.len:=(by rw[G,Wl.len_app]);clear r;cases N with
  |nil=>
   simp only[Wl.len] at Q;have td:decide ((i:Int)<(s.len:Int))=false:=(by simp;omega);have hnl:¬i<s.len:=(by omega);rw[show xs2=[] from hs2,List.append_nil] at J;rw[Wl.app_nil] at G;subst G;subst J;have hn2:=(v.tagX F.out P.out (by decide) (by decide) (by decide)).trans P.out;have p22:wr.cell? ⟨z,2,none⟩=some (.slice oa o.len ocp):=A1 (i:=2) hn2 rfl;have lz2:z<wr.heap.size:=(z3.1 hn2).1;have hrw2:=hd (hrw1.out.kcX v F.out (by decide) (by decide) (by decide));have hro2:=hd (hro1.out.kcX v F.out (by decide) (by decide) (by decide));have hsw2:=hd (fun p=>(hs1 p).wide (z6 _) hm2);have hso2:=hd (hso1.out.kcX v F.out (.inl (z6 _)) hib);have M:=hd (fun p=>v.ex F.out (hx1.out p) (.inr (z6 _)) (show m1≤bc by omega));have hK2:=hd (hK1.out.trans (v.wide (by omega) (by omega)));replace d:=hd d;clear hs1 hs2 Q V v hn2 D;go_wp2_with (fail);refine A1y ho hol d.out hro2.out.1 hso2.out q3 (by omega) _ ?_;intro w3 lv3 env3 k3 hso3;have hrw3:=hrw2.out.kcX k3 d.out (by decide) (by decide) (by decide);have hro3:=hro2.out.kcX k3 d.out (by decide) (by decide) (by decide);have hsw3:=fun p=>(hsw2.out p).keep (k3.sameX d.out (.inr (z6 _)) (show m2≤bc by omega));have hx3:=fun p=>k3.ex d.out (M.out p) (.inr (by omega)) (show m1≤bc by omega);rw[ex1.out] at env3;have fin2:=hd (fin.out w3 lv3 (env3.flag (by generalize (N9 vs e&&B9 (kE vs e))=A;generalize wtW vs ls s=B;generalize Q9 vs ls o=C;cases x<;>cases A<;>cases B<;>cases C<;>rfl)) (hK2.out.trans (k3.wide (by omega) (z6 _))) (fun p=>by simp only[z4] at p;exact⟨_,_,_,m1,m2,rfl,q1,q2,q3,hx3 p.1.1.1,⟨_,_,hrw3,hsw3 p.1.2⟩,⟨ys,hro3,hso3 p.2⟩⟩));clear k3 env3 hso3 hrw3 hro3 hsw3 hx3;go_wp2;go_end0;exact fin2.out
  |cons ns b t=>
   simp only[Wl.len] at Q;have td:decide ((i:Int)<(s.len:Int))=true:=(by simp;omega);have hnl:i<s.len:=(by omega);obtain⟨k3,k4,k5,k6⟩:=hok;obtain⟨vn,vb,xs3,a,mm,c,m',M,y1,y2,y3,y4,y5,y6,hrn,⟨zs,hrb,hsb⟩,L⟩:=hs2;have hrwX:=hrw1.out.kcX v F.out (by decide) (by decide) (by decide);obtain⟨g,cap,cur,hge,hgh,hgs,hgc,hgx⟩:=hrwX.two (by omega);injection hge with e1' _ e2';subst e1' e2';obtain⟨na,X,rfl⟩:=A7 hrn.1;obtain⟨ba,S,rfl⟩:=A7 hrb.1;have hxl:xs1.length=i*2:=(by rw[V];exact D);have x1:xs[i*2]? =some (.slice na ns.length X):=(by rw[J,M,x0 (by omega),hxl,Nat.sub_self];rfl);have x2:xs[i*2+1]? =some (.slice ba b.len S):=(by rw[J,M,x0 (by omega),hxl,show i*2+1-i*2=1 by omega];rfl);have c1:wr.cell? ⟨g,i*2,none⟩=some (.slice na ns.length X):=A1 hgc (hgx _ _ x1);have c2:wr.cell? ⟨g,i*2+1,none⟩=some (.slice ba b.len S):=A1 hgc (hgx _ _ x2);have j0:(0:Int)≤(i:Int)∧(i:Int)<(s.len:Int):=(by omega);obtain⟨W,hW⟩:∃W,W=wr.alloc (Obj.cells #[.slice na ns.length X,.slice ba b.len S] 317):=⟨_,rfl⟩;have K:Below wr.heap.size wr W:=(by rw[hW];exact (Below.refl _ wr).alloc (z6 _) _);have O:W.heap[wr.heap.size]? =some (.cells #[.slice na ns.length X,.slice ba b.len S] 317):=(by rw[hW];exact A2);have p51:W.cell? ⟨wr.heap.size,1,none⟩=some (.slice ba b.len S):=A1 (i:=1) O rfl;have E:=d.below K;have hqb:wr.heap.size≠bc:=E.ne O (by decide);replace E:=hd E;have hrnW:=hd (hrn.below K);have hrbW:=hd (hrb.below K);have hsbW:=hd (hsb.belowZ K);have hs1W:=hd (fun p=>(hs1 p).belowZ K);have hrestW:=hd (L.belowZ K);have hkW:=hd (v.trans (Kc.below (bc:=bc) (u:=lvr) K));obtain⟨bo,bcp',hbe,hcp,hbo⟩:=H5 hrnW.out.1;injection hbe with e1' _ e2';subst e1' e2';replace hbo:=hd hbo;replace O:=hd O;replace Q:=hd Q;replace V:=hd V;replace D:=hd D;replace G:=hd G;replace J:=hd J;replace M:=hd M;replace d:=hd d;replace v:=hd v;replace hs1:=hd hs1;replace L:=hd L;replace y6:=hd y6;clear hgx hrwX x1 x2 hrn hrb hsb hgc hxl;go_wp2;rw[←hW];replace hW:=hd hW;generalize hq:wr.heap.size=q at*;go_loopw [7,25] (fun _ jv wj=>∃j:Nat,jv=.int .i64 (j:Int)∧j≤ns.length∧Wx bc W wj∧G5 bc bm U vs bs lvr ls (x1 || !wtW vs ls done || !(ns.take j).all inD) wj) (fun _ jv _=>ns.length-(intOf jv).toNat);case atStart=>exact⟨0,rfl,x3 _,Wx.refl,by rw[show (ns.take 0).all inD=true from rfl,Bool.not_true,Bool.or_false];exact E.out⟩
   case round=>
    obtain⟨j,rfl,hj,I,ej⟩:=hrel;rename WD=>wj;by_cases hlt:j<ns.length
    ·have tj:decide ((j:Int)<(ns.length:Int))=true:=(by simp;omega);obtain⟨y,hy⟩:∃y,ns[j]? =some y:=⟨_,y8 hlt⟩;obtain⟨g2,rfl,hgl2,hgs2,hg2⟩:=hbo.out (by omega);have hg2b:g2≠bc:=(by obtain⟨cur2,hc2⟩:=G6 hrnW.out.1 (show (Value.slice (some ⟨g2,0,none⟩) ns.length X).ownBlock=some g2 from rfl);exact E.out.ne hc2 (by decide));have d1:wj.cell? ⟨g2,j,none⟩=some (.int .i64 y):=I.cell hg2b (hg2 j _ (by unfold A2t;rw[List.getElem?_map,hy];rfl));have jj:(0:Int)≤(j:Int)∧(j:Int)<(ns.length:Int):=(by omega);have lg2:g2<wj.heap.size:=y9 wj ⟨g2,j,none⟩ d1;have hst:(ns.take (j+1)).all inD=((ns.take j).all inD&&inD y):=(by rw[List.take_add_one,hy,x7,List.all_append];simp);replace I:=hd I;replace ej:=hd ej;replace hst:=hd hst;clear hg2 hy;go_wp2_with (first|(go_at_call 322;refine A66 _ y _ ?_));refine J3 ej.out _ _ ?_;intro w5 e5 T;have e6:G5 bc bm U vs bs lvr ls (x1 || !wtW vs ls done || !(ns.take (j+1)).all inD) w5:=(by rw[hst.out];exact e5.flag (by generalize wtW vs ls done=A;generalize (ns.take j).all inD=B;generalize inD y=C;cases x1<;>cases A<;>cases B<;>cases C<;>rfl));have k6':Wx bc W w5:=⟨T.os.trans I.out.os,T.tape.trans I.out.tape,T.output.trans I.out.output,T.size.trans I.out.size,fun b hb=>(T.block b hb).trans (I.out.block b hb)⟩;replace e6:=hd e6;replace k6':=hd k6';clear e5 T d1;go_wp2;exact⟨⟨j+1,by go_num,by omega,k6'.out,e6.out⟩,by simp[intOf];omega⟩
    ·have tj:decide ((j:Int)<(ns.length:Int))=false:=(by simp;omega);have hnj:¬j<ns.length:=(by omega);rw[List.take_of_length_le (by omega)] at ej;have p51j:=I.cell hqb p51;have lqj:q<wj.heap.size:=y9 wj ⟨q,1,none⟩ p51j;have hrbj:=hd (hrbW.out.wx I E.out (by decide));have hrnj:=hd (hrnW.out.wx I E.out (by decide));have hsbj:=hd (hsbW.out.wx I (by omega));have hs1j:=hd (fun p=>(hs1W.out p).keep (w':=wj) (fun b _ _ _ _ h4 _ _=>I.block b (by omega)));have hrestj:=hd (hrestW.out.keep (w':=wj) (fun b _ _ _ _ h4 _ _=>I.block b (by omega)));have hkj:=hd (hkW.out.trans I.kc);replace ej:=hd ej;clear I p51;go_wp2_with (fail);refine A1y k4 k5 ej.out hrbj.out.1 hsbj.out y3 (by omega) _ ?_;intro w5 lv5 env5 k7 hsb5;have hne:CwX vs ls bc bm U bs lv lv5 x1 (Value.slice (some ⟨g,0,none⟩) s.len Y).ownBlock s m1 m2 xs w1 (i+1) w5 t:=by
      refine⟨⟨done.app (.cons ns b .nil),xs1++[.slice na ns.length X,.slice ba b.len S],xs3,m',?_,?_,?_,?_,fun p=>?_,?_,by omega,y5,?_⟩,hkj.out.trans (k7.wide (by omega) (by omega)),k6⟩
      ·rw[G.out,Wl.app_assoc];rfl
      ·rw[J.out,M.out,List.append_assoc];rfl
      ·rw[Wl.len_app,V.out];rfl
      ·rw[z8,Wl.len_app,D.out];simp only[x4,x6,Wl.len];omega
      ·rw[A4A,z4,z4] at p;refine O5.snoc (hrnj.out.kcX k7 ej.out (by decide) (by decide) (by decide)) (hrbj.out.kcX k7 ej.out (by decide) (by decide) (by decide)) (hsb5 p.2.2) y2 y3 y4 y6.out (by omega) ?_;exact ((hs1j.out p.1).keep (k7.sameX ej.out (.inr (by omega)) (by omega))).wide (z6 _) y1
      ·exact hrestj.out.keep (k7.sameX ej.out (.inl (by omega)) (by omega))
      ·rw[A4A];exact env5.flag (by generalize wtW vs ls done=A;generalize ns.all inD=B;generalize Q9 vs ls b=C;cases x1<;>cases A<;>cases B<;>cases C<;>rfl)
     replace hne:=hd hne;clear env5 k7 hsb5;go_wp2;exact⟨⟨i+1,t,lv5,by go_num,hne.out⟩,by have:=Q.out;have:=V.out;simp[intOf];omega⟩
section
variable {vs:List Vd}
theorem Z7:∀e:Ex,knX vs (C7 e)=true→oOk e=true→S2 vs e
 |.lit _,_,_=>B7Q
 |.tru _,_,_=>B7z
 |.plc _,hn,_=>B7s hn
 |.idx _ i,hn,ho=>B7F (Z7 i (A1k hn).2 ho) hn
 |.bin o l r,hn,ho=>by
  simp only[oOk,z4,decide_eq_true_eq] at ho;exact B6G (Z7 l (O4 hn).1 ho.1.2) (Z7 r (O4 hn).2 ho.2) ho.1.1
 |.neg e,hn,ho=>B6N (Z7 e hn ho)
 |.sho e,hn,ho=>B7I (Z7 e hn ho)
 |.dly _ a s,hn,ho=>by
  simp only[oOk,z4] at ho;exact B6y (Z7 a (O4 (A1k hn).2).1 ho.1) (Z7 s (O4 (A1k hn).2).2 ho.2) hn
mutual
theorem cxS (hk:∀v∈vs,v.kind≤3):∀(s:Q3) (ls:LB),knX vs (G0 s)=true→okS s=true→(ls.length:Int)+I2 s≤1000→A12 vs ls s
 |.set _ e,ls,hn,ho,hl=>B67 (Z7 e (A1k hn).2 ho) hn hk (by have:=U8 (.set ‹_› e);omega)
 |.setx _ i e,ls,hn,ho,hl=>by
  simp only[okS,z4] at ho;exact B4u (Z7 i (O4 (A1k hn).2).1 ho.1) (Z7 e (O4 (A1k hn).2).2 ho.2) hn hk (by have:=U8 (.setx ‹_› i e);omega)
 |.ife c t o,ls,hn,ho,hl=>by
  simp only[okS,z4] at ho;simp only[I2] at hl;have h1:=B0 t;have h2:=B0 o;have h3:=B5 c;exact B7U (Z7 c (O4 hn).1 ho.1.1) (cxL hk t ls (O4 (O4 hn).2).1 ho.1.2 (by omega)) (by omega) (cxL hk o ls (O4 (O4 hn).2).2 ho.2 (by omega)) (by omega)
 |.cas e ws o,ls,hn,ho,hl=>by
  simp only[okS,z4] at ho;simp only[I2] at hl;have h1:=J9 ws;have h2:=B0 o;have h3:=B5 e;exact B60 (Z7 e (O4 hn).1 ho.1.1) (cxW hk ws ls (O4 (O4 hn).2).1 ho.1.2 (by omega)) (by omega) (cxL hk o ls (O4 (O4 hn).2).2 ho.2 (by omega)) (by omega)
 |.loop s f l b,ls,hn,ho,hl=>by
  simp only[I2] at hl;have h1:=B0 b;exact B4Z hn (cxL hk b (ls++[s]) (A1k hn).2 ho (by rw[z8,List.length_singleton];omega)) (by omega) (by omega)
theorem cxL (hk:∀v∈vs,v.kind≤3):∀(l:Sl) (ls:LB),knX vs (E0 l)=true→okL l=true→(ls.length:Int)+O6 l≤1000→A45 vs ls l
 |.nil,_,_,_,_=>trivial
 |.cons h t,ls,hn,ho,hl=>by
  simp only[okL,z4] at ho;simp only[O6] at hl;have h1:=B0 t;have h2:=U8 h;exact⟨cxS hk h ls (O4 hn).1 ho.1 (by omega),cxL hk t ls (O4 hn).2 ho.2 (by omega)⟩
theorem cxW (hk:∀v∈vs,v.kind≤3):∀(l:Wl) (ls:LB),knX vs (O3 l)=true→okW l=true→(ls.length:Int)+U4 l≤1000→A9l vs ls l
 |.nil,_,_,_,_=>trivial
 |.cons ns b t,ls,hn,ho,hl=>by
  simp only[okW,z4] at ho;simp only[U4] at hl;have h1:=B0 b;have h2:=J9 t;exact⟨by omega,cxL hk b ls (O4 hn).1 ho.1 (by omega),by omega,cxW hk t ls (O4 hn).2 ho.2.1 (by omega)⟩
end
end
theorem B6T (v:Vd):wtV v=((((v.kind:Int) !=3)||((v.role:Int)==2))&&(decide (1≤v.len)&&decide (v.len≤16))):=by unfold wtV;have b:((v.kind:Int) !=3)=decide (v.kind≠3):=(by rw[x5];simp only[bne_iff_ne,decide_eq_true_eq,ne_eq];omega);have a:((v.role:Int)==2)=decide (v.role=2):=(by rw[x5];simp only[beq_iff_eq,decide_eq_true_eq];omega);rw[b,a,Bool.and_assoc]
theorem B0y {lo bm:Nat}{w:WD}{vs:List Vd}{M:List Nat}{us:LB}{body:Sl}{xs:List VL}{vv uv bv:VL}(h:A5g lo w vs M us body xs vv uv bv)(U:U0 w bm vs.length (M3 vs M))(V:∀v∈vs,v.name.size≤1000)(hck:A45 vs [] body)(hvl:vs.length≤1000000)(hbl:body.len≤1000000)(hlo:lo≤w.heap.size)(R:RP)(J:∀w',Kf lo w.heap.size w w'→((vs.all wtV&&Q9 vs [] body)=true→G1 (kE vs) bv.ownBlock body lo w.heap.size w' xs)→R (.returned (.bool (vs.all wtV&&Q9 vs [] body))) w'):Calls Tryz.prog 43 #[.agg #[vv,uv,bv],.map (some bm)] w R:=by
 obtain⟨vo,vc,rfl,hvc,H⟩:=H5 h.vown;obtain⟨uo,uc,rfl⟩:=A7 h.used;obtain⟨O,bc,rfl⟩:=A7 h.bown;replace J:=hd J;replace H:=hd H;obtain⟨s,l⟩:∃s,s=(w.alloc (Obj.cells #[.slice vo vs.length vc,.slice uo us.length uc,.slice O body.len bc] 87)).alloc (Obj.cells #[.map (some bm),.slice none 0 0,.bool false] 149):=⟨_,rfl⟩;have d:Below w.heap.size w s:=(by rw[l];exact ((Below.refl _ w).alloc (z6 _) _).alloc (by simp) _);have y:s.heap[w.heap.size]? =some (.cells #[.slice vo vs.length vc,.slice uo us.length uc,.slice O body.len bc] 87):=(by rw[l];exact (y7 _ _ _ (by simp)).trans A2);have x:s.heap[w.heap.size+1]? =some (.cells #[.map (some bm),.slice none 0 0,.bool false] 149):=(by rw[l];have:=A2 (w:=w.alloc (Obj.cells #[.slice vo vs.length vc,.slice uo us.length uc,.slice O body.len bc] 87)) (cur:=#[.map (some bm),.slice none 0 0,.bool false]) (T:=149) (fz:=(0,0));simpa using this);have n:G5 (w.heap.size+1) bm (fun _=>0) vs M (.slice none 0 0) [] false s:=(by refine⟨R5 x rfl (fun i hi=>?_),U.keep (d.block _ U.lt),(h.vars.low (x3 _)).keep (fun b _ _ K=>d.block b (z3.1 K).1),World.ownsRow_nil _ _ _ _,V⟩;have:i=0∨i=1∨i=2:=(by omega);rcases this with rfl|rfl|rfl<;>rfl);replace l:=hd l;replace n:=hd n;replace x:=hd x;go_enter Tryz.func43,Tryz.ntmps43;go_wp2;go_loopw [7,13] (fun _ iv wr=>∃i:Nat,i≤vs.length∧iv=.int .i64 (i:Int)∧Wx (w.heap.size+1) s wr∧G5 (w.heap.size+1) bm (fun _=>0) vs M (.slice none 0 0) [] (!(vs.take i).all wtV) wr) (fun _ iv _=>vs.length-(intOf iv).toNat);case atStart=>exact⟨0,x3 _,rfl,by rw[l.out];exact Wx.refl,by have:=n.out;rw[l.out] at this;exact this⟩
 case round=>
  obtain⟨i,hi,rfl,m,I⟩:=hrel;rename WD=>wr;have e:=(m.block w.heap.size (by omega)).trans y;by_cases Y:i<vs.length
  ·have td:decide ((i:Int)<(vs.length:Int))=true:=(by simp;omega);obtain⟨v,hv⟩:∃v,vs[i]? =some v:=⟨_,y8 Y⟩;obtain⟨b,q⟩:∃b,M[i]? =some b:=⟨_,y8 (by rw[h.vars.len];exact Y)⟩;obtain⟨g,rfl,hgl,hgs,hg⟩:=H.out (by omega);obtain⟨hblo,F⟩:=h.vars.row i v b hv q;have S:=F.lt;have G:∀(X:WD) (c:Nat),Wx (w.heap.size+1) s X→c<w.heap.size→X.heap[c]? =w.heap[c]? :=fun X c k K=>(k.block c (by omega)).trans (d.block c K);have C:∀X:WD,Wx (w.heap.size+1) s X→X.cell? ⟨b,2,none⟩=some (.int .u8 (v.kind:Int))∧X.cell? ⟨b,1,none⟩=some (.int .u8 (v.role:Int))∧X.cell? ⟨b,4,none⟩=some (.int .i64 v.len)∧b<X.heap.size:=fun X k=>by have r:=F.of_block (G X b k S);exact⟨r.cell (i:=2) (by omega),r.cell (i:=1) (by omega),r.cell (i:=4) (by omega),r.lt⟩
   have c1:wr.cell? ⟨g,i,none⟩=some (.pointer (some ⟨b,0,none⟩)):=(by rw[World.cell?_of_block (w:=w) (a:=⟨g,i,none⟩) (G wr g m hgs)];exact hg i _ (by unfold A3h;rw[List.getElem?_map,q];rfl));have lg:g<wr.heap.size:=y9 wr ⟨g,i,none⟩ c1;have j0:(0:Int)≤(i:Int)∧(i:Int)<(vs.length:Int):=(by omega);have p:(vs.take (i+1)).all wtV=((vs.take i).all wtV&&wtV v):=(by rw[List.take_add_one,hv,x7,List.all_append];simp);rw[B6T] at p;obtain⟨c2,c3,c4,lb⟩:=C wr m;obtain⟨t3,h3⟩:∃t,((v.kind:Int) !=3)=t:=⟨_,rfl⟩;obtain⟨t4,h4⟩:∃t,decide (1≤v.len)=t:=⟨_,rfl⟩;rw[h3,h4] at p;obtain⟨A,hA⟩:∃A,(vs.take i).all wtV=A:=⟨_,rfl⟩;rw[hA] at I p;replace p:=hd p;replace C:=hd C;replace m:=hd m;replace I:=hd I;replace hA:=hd hA;replace y:=hd y;replace e:=hd e;clear hg F hv q G d;rcases (show t3=true∨t3=false by cases t3<;>simp) with rfl|rfl;all_goals
    rcases (show t4=true∨t4=false by cases t4<;>simp) with rfl|rfl
   all_goals as_aux_lemma=>
    go_wp2_with (fail);refine J3 I.out _ _ ?_;intro w2 e2 P;have E:Wx (w.heap.size+1) s w2:=⟨P.os.trans m.out.os,P.tape.trans m.out.tape,P.output.trans m.out.output,P.size.trans m.out.size,fun b q=>(P.block b q).trans (m.out.block b q)⟩;obtain⟨d2,d3,d4,lb2⟩:=C.out w2 E;replace e2:=hd e2;replace E:=hd E;clear P;go_wp2_with (fail);refine J3 e2.out _ _ ?_;intro w3 e3 L;have kB:Wx (w.heap.size+1) s w3:=⟨L.os.trans E.out.os,L.tape.trans E.out.tape,L.output.trans E.out.output,L.size.trans E.out.size,fun b q=>(L.block b q).trans (E.out.block b q)⟩;have e4:G5 (w.heap.size+1) bm (fun _=>0) vs M (.slice none 0 0) [] (!(vs.take (i+1)).all wtV) w3:=(by rw[p.out];exact e3.flag (by generalize ((v.role:Int)==2)=a;generalize decide (v.len≤16)=b;cases A<;>cases a<;>cases b<;>rfl));replace e4:=hd e4;replace kB:=hd kB;clear e3 L;go_wp2;exact⟨⟨i+1,by omega,by go_num,kB.out,e4.out⟩,by simp[intOf];omega⟩
  ·have hie:i=vs.length:=(by omega);subst hie;rw[List.take_length] at I;have td:decide ((vs.length:Int)<(vs.length:Int))=false:=(by simp);have u2:wr.cell? ⟨w.heap.size,2,none⟩=some (.slice O body.len bc):=A1 (i:=2) e rfl;have lu:w.heap.size<wr.heap.size:=(z3.1 e).1;have f:∀c,c<w.heap.size→wr.heap[c]? =w.heap[c]? :=fun c K=>(m.block c (by omega)).trans (d.block c K);have z:wr.ownsRow lo 240 1 (.slice O body.len bc) body.len xs:=A5 h.bown (fun j _ _ hj=>f j hj);have u:G1 (fun _=>0) (Value.slice O body.len bc).ownBlock body lo w.heap.size wr xs:=h.body.keep (fun b _ _ _ _ h2 _ _=>f b h2);have hsr:w.heap.size≤wr.heap.size:=(by omega);have Q:wr.os=w.os∧wr.tape=w.tape∧wr.output=w.output:=⟨m.os.trans d.os,m.tape.trans d.tape,m.output.trans d.output⟩;replace y:=hd y;replace e:=hd e;replace f:=hd f;replace Q:=hd Q;clear m;go_wp2_with (fail);refine A1y hck hbl I z u hlo (by omega) _ ?_;intro w1 lv1 D N Z;obtain⟨X,hX,B⟩:=D.ex;have cw:w1.cell? ⟨w.heap.size+1,2,none⟩=some (.bool X):=B.ck.cell (i:=2) (by omega);have lw:=B.ck.lt;have hK:Kf lo w.heap.size w w1:=⟨N.os.trans Q.out.1,N.tape.trans Q.out.2.1,N.output.trans Q.out.2.2,Nat.le_trans hsr N.size,fun b q hp=>(N.block b (by omega) (by omega) (by simp[Value.ownBlock]) (fun cur K=>hp cur ((f.out b q).symm.trans K))).trans (f.out b q)⟩;have aa:(!X)=(vs.all wtV&&Q9 vs [] body):=(by rw[hX];cases vs.all wtV<;>cases Q9 vs [] body<;>rfl);have o:=J.out w1 hK (fun hw=>Z (by rw[z4] at hw;exact hw.2));rw[←aa] at o;replace o:=hd o;clear N z u D B Z hK hX aa I;go_wp2;exact A6 o.out rfl
end Go.Proofs.YtidhiaaicmfabaaGreatDoor
