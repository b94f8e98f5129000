/- Texts (its parts, joined). -/
import Derived.Test.YtidhiaaicmfabaaGreatDoorTqBQ
import Derived.Test.YtidhiaaicmfabaaGreatDoorTqBN
open Option renaming map_eq_some_iff→z0
open List renaming mem_append→z1,mem_cons→z3,getD_eq_getElem?_getD→z6,length_cons→z7,mem_of_getElem?→z8
open Bool renaming and_eq_true→z2
open Array renaming getElem?_eq_some_iff→z4
open Nat renaming le_refl→z5
namespace Go.Proofs.YtidhiaaicmfabaaGreatDoor
open Go.RowKit Go.Proofs Go.Deep
set_option maxRecDepth 100000
set_option maxHeartbeats 4000000
section
variable {w w':WD}{lo hi:Nat}
theorem DN.ex {e:Ex}{b g:Nat}{n:Int}{d:Bool}{nm op:BA}{x y:Option Nat}(h:DN TA e w b g n d nm op x y)(k:Ex7 w w'):DN TA e w' b g n d nm op x y:=by
 obtain⟨t,_,cur,p,q,a⟩:=h;obtain⟨f,l,m,c,i⟩:=k b cur _ p;obtain⟨o,j⟩:=i t (a 7 (by omega));refine⟨o,trivial,f,l,m.trans q,?_⟩;refine X6 ?_ ?_ ?_ ?_ ?_ ?_ ?_ j
 ·exact (c 0 (by omega)).trans (a 0 (by omega))
 ·exact (c 1 (by omega)).trans (a 1 (by omega))
 ·exact (c 2 (by omega)).trans (a 2 (by omega))
 ·exact (c 3 (by omega)).trans (a 3 (by omega))
 ·exact (c 4 (by omega)).trans (a 4 (by omega))
 ·exact (c 5 (by omega)).trans (a 5 (by omega))
 ·exact (c 6 (by omega)).trans (a 6 (by omega))
theorem DE.ex (k:Ex7 w w'):∀{e:Ex}{lo hi b:Nat},DE TA e lo hi w b→DE TA e lo hi w' b
 |.lit _,_,_,_,⟨h1,h2,h3⟩=>⟨h1,h2,h3.ex k⟩
 |.tru _,_,_,_,⟨h1,h2,h3⟩=>⟨h1,h2,h3.ex k⟩
 |.plc _,_,_,_,⟨h1,h2,h3⟩=>⟨h1,h2,h3.ex k⟩
 |.idx _ _,_,_,_,⟨h1,h2,bi,h3,h4⟩=>⟨h1,h2,bi,h3.ex k,DE.ex k h4⟩
 |.bin _ _ _,_,_,_,⟨h1,h2,bl,br,h3,h4,h5⟩=>⟨h1,h2,bl,br,h3.ex k,DE.ex k h4,DE.ex k h5⟩
 |.neg _,_,_,_,⟨h1,h2,be,h3,h4⟩=>⟨h1,h2,be,h3.ex k,DE.ex k h4⟩
 |.sho _,_,_,_,⟨h1,h2,be,h3,h4⟩=>⟨h1,h2,be,h3.ex k,DE.ex k h4⟩
 |.dly _ _ _,_,_,_,⟨h1,h2,ba,bs,m,h3,h6,h7,h4,h5⟩=>⟨h1,h2,ba,bs,m,h3.ex k,h6,h7,DE.ex k h4,DE.ex k h5⟩
theorem DT.ex (k:Ex7 w w'){g:Option Nat}:∀{ns:List Int}{lo hi:Nat}{zs:List VL},DT TA g ns lo hi w zs→DT TA g ns lo hi w' zs
 |[],_,_,_,h=>h
 |_::_,_,_,_,⟨b0,ys,a,b,m,e,q1,q2,q3,q4,q5,d1,d2⟩=>⟨b0,ys,a,b,m,e,q1,q2,q3,q4,q5,DE.ex k d1,DT.ex k d2⟩
mutual
theorem DZ.kr (k:Kr lo hi w w'):∀{s:Q3}{lo1 hi1 b:Nat},DZ TA s lo1 hi1 w b→DZ TA s lo1 hi1 w' b
 |.set _ _,_,_,_,⟨h1,h2,bp,be,hr,d1,d2⟩=>⟨h1,h2,bp,be,k.row hr (by decide),DE.ex k.ex d1,DE.ex k.ex d2⟩
 |.setx _ _ _,_,_,_,⟨h1,h2,bp,be,hr,d1,d2⟩=>⟨h1,h2,bp,be,k.row hr (by decide),DE.ex k.ex d1,DE.ex k.ex d2⟩
 |.ife _ _ _,_,_,_,⟨h1,h2,bc,ys,ns,m1,m2,hr,q1,q2,q3,d1,⟨xs,r1,e1⟩,⟨xs2,r2,e2⟩⟩=>⟨h1,h2,bc,ys,ns,m1,m2,k.row hr (by decide),q1,q2,q3,DE.ex k.ex d1,⟨xs,k.rowIn r1 (by decide),DL.kr k e1⟩,⟨xs2,k.rowIn r2 (by decide),DL.kr k e2⟩⟩
 |.cas _ _ _,_,_,_,⟨h1,h2,be,ns,br,m1,m2,hr,q1,q2,q3,d1,⟨xs,r1,e1⟩,⟨xs2,r2,e2⟩⟩=>⟨h1,h2,be,ns,br,m1,m2,k.row hr (by decide),q1,q2,q3,DE.ex k.ex d1,⟨xs,k.rowIn r1 (by decide),DW.kr k e1⟩,⟨xs2,k.rowIn r2 (by decide),DL.kr k e2⟩⟩
 |.loop _ _ _ _,_,_,_,⟨h1,h2,ba,bb,ys,m1,m2,hr,q1,q2,q3,d1,d2,⟨xs,r1,e1⟩⟩=>⟨h1,h2,ba,bb,ys,m1,m2,k.row hr (by decide),q1,q2,q3,DE.ex k.ex d1,DE.ex k.ex d2,⟨xs,k.rowIn r1 (by decide),DL.kr k e1⟩⟩
theorem DL.kr (k:Kr lo hi w w'):∀{l:Sl}{g:Option Nat}{lo1 hi1:Nat}{xs:List VL},DL TA g l lo1 hi1 w xs→DL TA g l lo1 hi1 w' xs
 |.nil,_,_,_,_,h=>h
 |.cons _ _,_,_,_,_,⟨b0,ys,a,b,m,e,q1,q2,q3,q4,q5,d1,d2⟩=>⟨b0,ys,a,b,m,e,q1,q2,q3,q4,q5,DZ.kr k d1,DL.kr k d2⟩
theorem DW.kr (k:Kr lo hi w w'):∀{l:Wl}{g:Option Nat}{lo1 hi1:Nat}{xs:List VL},DW TA g l lo1 hi1 w xs→DW TA g l lo1 hi1 w' xs
 |.nil,_,_,_,_,h=>h
 |.cons _ _ _,_,_,_,_,⟨vn,vb,ys,a,m1,c,m,e,q1,q2,q3,q4,q5,q6,⟨zs,r1,d1⟩,⟨zs2,r2,d2⟩,d3⟩=>⟨vn,vb,ys,a,m1,c,m,e,q1,q2,q3,q4,q5,q6,⟨zs,k.rowIn r1 (by decide),DT.ex k.ex d1⟩,⟨zs2,k.rowIn r2 (by decide),DL.kr k d2⟩,DW.kr k d3⟩
end
end
section
variable {L:LB}
theorem A04 {s:BA}{k k':Nat}(h:xS L s k=some k'):k'=k+1:=by obtain⟨_,rfl⟩:=A10.1 h;rfl
theorem B8C {k k':Nat}(h:xN L k=some k'):k'=k+1:=by obtain⟨_,rfl⟩:=A4S.1 h;rfl
theorem B1H {k:Nat}{p:Int×Nat}(h:D2 L k=some p):k<p.2:=by
 unfold D2 at h;by_cases c:((A0 L k).toList==wMI.toList)=true
 ·rw[if_pos c] at h;obtain⟨_,a⟩:=D3.1 h;injection a with a;subst a;simp only;omega
 ·rw[if_neg c] at h;obtain⟨_,a⟩:=D3.1 h;injection a with a;subst a;simp only;omega
theorem A4G:∀{f k:Nat}{r:Ex×Nat},qE L f k=some r→((k:Int)+cE r.1≤r.2∧oOk r.1=true)∧∀n∈C7 r.1,∃j,n=A0 L j
 |0,_,_,h=>by cases h
 |f+1,k,r,h=>by
  rw[qE] at h;by_cases s:(B6 (A0 L k) wMI||Y8 (A0 L k))=true
  ·rw[if_pos s] at h;obtain⟨p,a,c⟩:=C8 h;injection c with c;subst c;have:=B1H a;refine⟨by simp only[cE,oOk];exact⟨by omega,trivial⟩,by nofun⟩
  ·rw[if_neg s] at h;by_cases z:O7 (A0 L k)=true
   ·rw[if_pos z] at h;by_cases i:B6 (A0 L (k+1)) wLB=true
    ·rw[if_pos i] at h;obtain⟨p,a,h⟩:=C8 h;obtain⟨C,c,h⟩:=C8 h;injection h with h;subst h;have y:=A4G a;have:=A04 c;refine⟨by simp only[cE,oOk];exact⟨by omega,y.1.2⟩,fun n b=>(z3.1 b).elim (fun e=>⟨k,e⟩) (y.2 n)⟩
    ·rw[if_neg i] at h;injection h with h;subst h;refine⟨by simp only[cE,oOk];exact⟨by omega,trivial⟩,fun n b=>⟨k,List.mem_singleton.1 b⟩⟩
   ·rw[if_neg z] at h;by_cases i:B6 (A0 L k) V5=true
    ·rw[if_pos i] at h;injection h with h;subst h;refine⟨by simp only[cE,oOk];exact⟨by omega,trivial⟩,by nofun⟩
    ·rw[if_neg i] at h;by_cases v:B6 (A0 L k) Q0=true
     ·rw[if_pos v] at h;injection h with h;subst h;refine⟨by simp only[cE,oOk];exact⟨by omega,trivial⟩,by nofun⟩
     ·rw[if_neg v] at h;by_cases A:B6 (A0 L k) wLP=true
      ·rw[if_pos A] at h;obtain⟨p,a,h⟩:=C8 h;obtain⟨o,c,h⟩:=C8 h;obtain⟨q,g,h⟩:=C8 h;obtain⟨C,l,h⟩:=C8 h;injection h with h;subst h;have d:=A4G a;have u:=A4G g;have:=A04 l;have D:=(A4b c).1;refine⟨by simp only[cE,oOk,z2,decide_eq_true_eq];exact⟨by omega,⟨D,d.1.2⟩,u.1.2⟩,fun n b=>(z1.1 b).elim (d.2 n) (u.2 n)⟩
      ·rw[if_neg A] at h;by_cases m:B6 (A0 L k) A1K=true
       ·rw[if_pos m] at h;obtain⟨p,a,h⟩:=C8 h;injection h with h;subst h;have d:=A4G a;exact⟨by simp only[cE,oOk];exact⟨by omega,d.1.2⟩,d.2⟩
       ·rw[if_neg m] at h;by_cases x:B6 (A0 L k) R4=true
        ·rw[if_pos x] at h;obtain⟨p,a,h⟩:=C8 h;injection h with h;subst h;have d:=A4G a;exact⟨by simp only[cE,oOk];exact⟨by omega,d.1.2⟩,d.2⟩
        ·rw[if_neg x] at h;obtain⟨M,h⟩:=D3.1 h;obtain⟨N,l,h⟩:=C8 h;obtain⟨K,g,l⟩:=C8 l;obtain⟨C,c,g⟩:=C8 g;obtain⟨p,E,h⟩:=C8 h;obtain⟨I,F,h⟩:=C8 h;obtain⟨q,H,h⟩:=C8 h;obtain⟨J,G,h⟩:=C8 h;injection h with h;subst h;have:=A04 c;have:=B8C g;have:=A04 l;have B:=A4G E;have:=A04 F;have t:=A4G H;have:=A04 G;refine⟨by simp only[cE,oOk,z2];exact⟨by omega,B.1.2,t.1.2⟩,fun n b=>(z3.1 b).elim (fun e=>⟨_,e⟩) (fun b=>(z1.1 b).elim (B.2 n) (t.2 n))⟩
theorem A9y:∀{f k:Nat}{r:List Int×Nat},I0 L f k=some r→k+r.1.length≤r.2
 |0,_,_,h=>by cases h
 |f+1,k,r,h=>by
  rw[I0] at h;by_cases c:B6 (A0 L k) wCM=true
  ·rw[if_pos c] at h;obtain⟨p,a,h⟩:=C8 h;obtain⟨q,b,h⟩:=C8 h;injection h with h;subst h;have:=B1H a;have:=A9y b;simp only[z7];omega
  ·rw[if_neg c] at h;injection h with h;subst h;simp
def NdR (L:LB)(q:Nat→Option (Sl×Nat)):Prop:=∀(k:Nat) (r:Sl×Nat),q k=some r→((k:Int)+O6 r.1≤r.2∧okL r.1=true)∧∀n∈E0 r.1,∃j,n=A0 L j
variable {sq:Nat→Option (Sl×Nat)}
theorem B9v (b:NdR L sq):NdR L (qO L sq):=fun k r h=>by
 unfold qO qOE at h;obtain⟨p,a,h⟩:=C8 h;obtain⟨e,d,h⟩:=C8 h;injection h with h;subst h;have:=A04 d;by_cases c:B6 (A0 L k) A1A=true
 ·rw[if_pos c] at a;have y:=b _ _ a;exact⟨⟨by simp only;omega,y.1.2⟩,y.2⟩
 ·rw[if_neg c] at a;injection a with a;subst a;refine⟨by simp only[O6,okL] at*;exact⟨by omega,trivial⟩,by nofun⟩
theorem B2l (e:NdR L sq):∀(f k:Nat) (r:Wl×Nat),A0U L sq f k=some r→((k:Int)+U4 r.1≤r.2∧okW r.1=true)∧∀n∈O3 r.1,∃j,n=A0 L j
 |0,_,_,h=>by cases h
 |f+1,k,r,h=>by
  rw[A0U] at h;by_cases c:B6 (A0 L k) A1D=true
  ·rw[if_pos c] at h;obtain⟨p,a,h⟩:=C8 h;obtain⟨q,t,h⟩:=C8 h;injection h with h;subst h;unfold A23 at a;obtain⟨n,o,a⟩:=C8 a;obtain⟨u,l,a⟩:=C8 a;obtain⟨v,i,a⟩:=C8 a;obtain⟨b,m,a⟩:=C8 a;injection a with a;subst a;have:=B1H o;have:=A9y l;have:=A04 i;have d:=e _ _ m;have g:=B2l e f _ _ t;refine⟨?_,fun n s=>(z1.1 s).elim (d.2 n) (g.2 n)⟩;simp only[U4,okW,z7,z2] at*;exact⟨by omega,d.1.2,g.1.2,by simp⟩
  ·rw[if_neg c] at h;injection h with h;subst h;refine⟨by simp only[U4,okW];exact⟨by omega,trivial⟩,by nofun⟩
theorem B8G (u:NdR L sq)(k:Nat)(r:Q3×Nat)(h:qSt L sq k=some r):((k:Int)+I2 r.1≤r.2∧okS r.1=true)∧∀n∈G0 r.1,∃j,n=A0 L j:=by
 unfold qSt at h;by_cases C:O7 (A0 L k)=true
 ·rw[if_pos C] at h;unfold A7O at h;obtain⟨x,a,h⟩:=C8 h;obtain⟨y,q,h⟩:=C8 h;obtain⟨e,m,h⟩:=C8 h;injection h with h;subst h;have g:=A4G m;have:=A04 q;unfold qI at a;by_cases c:B6 (A0 L (k+1)) wLB=true
  ·rw[if_pos c] at a;obtain⟨p,J,a⟩:=C8 a;obtain⟨I,D,a⟩:=C8 a;injection a with a;subst a;have i:=A4G J;have:=A04 D;refine⟨by simp only[mkS,I2,okS,z2] at*;exact⟨by omega,i.1.2,g.1.2⟩,fun n d=>(z3.1 d).elim (fun e=>⟨k,e⟩) (fun d=>(z1.1 d).elim (i.2 n) (g.2 n))⟩
  ·rw[if_neg c] at a;injection a with a;subst a;refine⟨by simp only[mkS,I2,okS] at*;exact⟨by omega,g.1.2⟩,fun n d=>(z3.1 d).elim (fun e=>⟨k,e⟩) (g.2 n)⟩
 ·rw[if_neg C] at h;by_cases A:B6 (A0 L k) wIF=true
  ·rw[if_pos A] at h;unfold A5h at h;obtain⟨x,a,h⟩:=C8 h;obtain⟨y,q,h⟩:=C8 h;obtain⟨t,m,h⟩:=C8 h;obtain⟨o,v,h⟩:=C8 h;injection h with h;subst h;have i:=A4G a;have:=A04 q;have g:=u _ _ m;have s:=B9v u _ _ v;refine⟨by simp only[I2,okS,z2];exact⟨by omega,⟨i.1.2,g.1.2⟩,s.1.2⟩,fun n d=>(z1.1 d).elim (i.2 n) (fun d=>(z1.1 d).elim (g.2 n) (s.2 n))⟩
  ·rw[if_neg A] at h;by_cases B:B6 (A0 L k) J5=true
   ·rw[if_pos B] at h;unfold A5b at h;obtain⟨x,a,h⟩:=C8 h;obtain⟨y,q,h⟩:=C8 h;obtain⟨t,m,h⟩:=C8 h;obtain⟨o,v,h⟩:=C8 h;injection h with h;subst h;have i:=A4G a;have:=A04 q;have g:=B2l u _ _ _ m;have s:=B9v u _ _ v;refine⟨by simp only[I2,okS,z2];exact⟨by omega,⟨i.1.2,g.1.2⟩,s.1.2⟩,fun n d=>(z1.1 d).elim (i.2 n) (fun d=>(z1.1 d).elim (g.2 n) (s.2 n))⟩
   ·rw[if_neg B] at h;obtain⟨N,h⟩:=D3.1 h;unfold A43 at h;obtain⟨y,a,h⟩:=C8 h;obtain⟨I,q,h⟩:=C8 h;obtain⟨f,m,h⟩:=C8 h;obtain⟨O,v,h⟩:=C8 h;obtain⟨l,E,h⟩:=C8 h;obtain⟨M,F,h⟩:=C8 h;obtain⟨b,H,h⟩:=C8 h;obtain⟨K,G,h⟩:=C8 h;injection h with h;subst h;have:=B8C a;have:=A04 q;have:=B1H m;have:=A04 v;have:=B1H E;have:=A04 F;have z:=u _ _ H;have:=A04 G;refine⟨by simp only[I2,okS];exact⟨by omega,z.1.2⟩,fun n d=>(z3.1 d).elim (fun e=>⟨_,e⟩) (z.2 n)⟩
end
theorem B2L (L:LB):∀f,NdR L (qSl L f)
 |0=>fun _ _ h=>by cases h
 |f+1=>fun k r h=>by
  rw[qSl] at h;by_cases c:A0b (A0 L k)=true
  ·rw[if_pos c] at h;obtain⟨p,g,h⟩:=C8 h;obtain⟨j,i,h⟩:=C8 h;obtain⟨q,e,h⟩:=C8 h;injection h with h;subst h;have a:=B8G (B2L L f) _ _ g;have:=A04 i;have b:=B2L L f _ _ e;refine⟨by simp only[O6,okL,z2];exact⟨by omega,a.1.2,b.1.2⟩,fun n d=>(z1.1 d).elim (a.2 n) (b.2 n)⟩
  ·rw[if_neg c] at h;injection h with h;subst h;refine⟨by simp only[O6,okL];exact⟨by omega,trivial⟩,by nofun⟩
def A6o (v:Vd):Prop:=v.kind≤3∧v.role≤2∧(v.arr=true→0≤v.len)∧(v.arr=false→v.len=1)∧v.name.size≤1000
theorem B5u {L:LB}{k:Nat}{c:Nat×Nat}(h:kdP L k=some c):c.1≤2∧k<c.2:=by
 unfold kdP at h;by_cases b:B6 (A0 L k) A1E=true
 ·rw[if_pos b] at h;injection h with h;subst h;simp only;omega
 ·rw[if_neg b] at h;by_cases a:B6 (A0 L k) A4l=true
  ·rw[if_pos a] at h;injection h with h;subst h;simp only;omega
  ·rw[if_neg a] at h;obtain⟨f,d,e⟩:=z0.1 h;subst e;have:=A04 d;simp only;omega
theorem B9x {L:LB}(j:∀t∈L,A5k t){k:Nat}{t:(Nat×Bool×Int)×Nat}(h:tyP L k=some t):t.1.1≤3∧(t.1.2.1=true→0≤t.1.2.2)∧(t.1.2.1=false→t.1.2.2=1):=by
 unfold tyP at h;by_cases f:B6 (A0 L k) N8=true
 ·rw[if_pos f] at h;injection h with h;subst h;exact⟨by simp only;omega,(fun e=>by cases e),fun _=>rfl⟩
 ·rw[if_neg f] at h;by_cases g:B6 (A0 L k) R3=true
  ·rw[if_pos g] at h;obtain⟨n,a,h⟩:=C8 h;obtain⟨o,m,h⟩:=C8 h;obtain⟨c,d,h⟩:=z0.1 h;subst h;refine⟨by have:=B5u d;simp only;omega,fun _=>?_,fun e=>by cases e⟩;unfold A2n at a;obtain⟨b,a⟩:=D3.1 a;injection a with a;subst a;have l:k+1<L.length:=by
    by_cases e:k+1<L.length
    ·exact e
    ·rw[G7 e] at b;cases b
   have hd:=(A2U j l).2.2 b;have:=A6C b hd;have i:=A2O (A0 L (k+1)).data.toList;rw[this] at i;unfold c40 at i;simp only;omega
  ·rw[if_neg g] at h;obtain⟨c,d,h⟩:=z0.1 h;subst h;exact⟨by have:=B5u d;simp only;omega,(fun e=>by cases e),fun _=>rfl⟩
theorem B5d {L:LB}(a:∀t∈L,A5k t)(k:Nat):(A0 L k).size≤1000:=by
 unfold A0;rw[z6];cases e:L[k]? with
 |none=>exact Nat.zero_le _
 |some t=>exact (a t (z8 e)).2.1
theorem B45 {L:LB}(d:∀t∈L,A5k t):∀(f k:Nat) (r:List Vd×Nat),pDs L f k=some r→k+r.1.length≤r.2∧∀v∈r.1,A6o v
 |0,_,_,h=>by cases h
 |f+1,k,r,h=>by
  cases a:rlP (A0 L k) with
  |none=>
   rw[A0z a] at h;injection h with h;subst h;exact⟨by simp,fun v c=>by cases c⟩
  |some rl=>
   rw[A06 a] at h;unfold A47 at h;obtain⟨p,b,h⟩:=C8 h;obtain⟨q,l,h⟩:=z0.1 h;subst h;have j:=B45 d f _ _ l;have u:=A4h (v:=p.1) (k':=p.2) b;refine⟨by simp only[z7];omega,fun v c=>?_⟩;rcases z3.1 c with rfl|c
   ·unfold vdP at b;obtain⟨t,e,b⟩:=C8 b;obtain⟨s,m,e⟩:=C8 e;obtain⟨n,o,b⟩:=z0.1 b;have z:=B9x d e;rw[←b];refine⟨z.1,?_,z.2.1,z.2.2,B5d d _⟩;show rl≤2;unfold rlP at a;by_cases i:B6 (A0 L k) wIN=true
    ·rw[if_pos i] at a;injection a with a;omega
    ·rw[if_neg i] at a;by_cases g:B6 (A0 L k) A5X=true
     ·rw[if_pos g] at a;injection a with a;omega
     ·rw[if_neg g] at a;obtain⟨_,a⟩:=D3.1 a;injection a with a;omega
   ·exact j.2 v c
theorem V8 {s:BA}{vs:List Vd}{body:Sl}(h:M8 s=some (vs,body)):O6 body≤700∧okL body=true∧vs.length≤700∧(∀v∈vs,A6o v)∧∀n∈E0 body,n.size≤1000:=by
 by_cases f:s.size≤700
 ·rw[A2h f] at h;obtain⟨L,b,h⟩:=C8 h;have a:∀t∈L,A5k t:=fun t d=>(A0i _ _ _ b t d).1.tk (by have:=(A0i _ _ _ b t d).2;omega);have m:L.length≤700:=(by have:=A6e _ _ _ b;omega);unfold A3U at h;obtain⟨p,u,h⟩:=C8 h;obtain⟨A,y,h⟩:=C8 h;obtain⟨q,k,h⟩:=C8 h;obtain⟨D,l,h⟩:=C8 h;obtain⟨⟨z,_⟩,c⟩:=D3.1 h;injection c with c;injection c with i r;subst i r;have x:=B45 a _ _ _ u;have E:=A04 y;have g:=B2L L _ _ _ k;have C:=A04 l;have B:=B0 q.1;exact⟨by omega,g.1.2,by omega,x.2,fun n o=>by obtain⟨j,e⟩:=g.2 n o;rw[e];exact B5d a j⟩
 ·unfold M8 at h;rw[if_neg f] at h;cases h
theorem xw6 {x a b b' t o:Bool}(h:a=true→b=b'):(x || !a || !b || !t || !o)=(x || !(a&&b' && t&&o)):=by
 cases a with
 |false=>simp
 |true=>rw[h rfl];cases x<;>cases b'<;>cases t<;>cases o<;>rfl
theorem C2.kcX {bc bm lo hi b a:Nat}{c:Nat→Int}{vs:List Vd}{i:List Nat}{lv lv':VL}{ls:LB}{x:Bool}{w w':WD}{T d n:Nat}{v:VL}{xs:List VL}(h:C2 w b a T d v n xs)(k:Kc bc lo hi lv lv' w w')(e:G5 bc bm c vs i lv ls x w)(j:T≠149)(l:T≠9)(f:T≠351):C2 w' b a T d v n xs:=h.tagZ (fun _ _ g=>k.tagX e g j l f)
theorem G1.kcX {bc bm lo hi b a:Nat}{c:Nat→Int}{vs:List Vd}{d:List Nat}{lv lv':VL}{ls:LB}{x:Bool}{w w':WD}{kk:Ex→Int}{g:Option Nat}{l:Sl}{xs:List VL}(h:G1 kk g l b a w xs)(k:Kc bc lo hi lv lv' w w')(e:G5 bc bm c vs d lv ls x w)(f:hi≤b∨a≤lo)(i:a≤bc):G1 kk g l b a w' xs:=h.keep (k.sameX e f i)
theorem G1.wx {bc c a:Nat}{w w':WD}{kk:Ex→Int}{g:Option Nat}{l:Sl}{xs:List VL}(h:G1 kk g l c a w xs)(k:Wx bc w w')(e:a≤bc):G1 kk g l c a w' xs:=h.keep (fun b _ _ _ _ d _ _=>k.block b (by omega))
theorem C2.wx {bc bm a b:Nat}{c:Nat→Int}{vs:List Vd}{f:List Nat}{lv:VL}{ls:LB}{x:Bool}{w w':WD}{T d n:Nat}{v:VL}{xs:List VL}(h:C2 w a b T d v n xs)(k:Wx bc w w')(e:G5 bc bm c vs f lv ls x w)(g:T≠149):C2 w' a b T d v n xs:=h.tagZ (fun _ _ i=>k.block _ (e.ne i g))
theorem B7U {vs:List Vd}{ls:LB}{c:Ex}{t o:Sl}(hc:S2 vs c)(ht:A45 vs ls t)(htl:t.len≤1000000)(ho:A45 vs ls o)(hol:o.len≤1000000):A12 vs ls (.ife c t o):=by
 intro bc bm lo hi tt fst bs lv u x w hlh T h hx R C;obtain⟨vc,vt,vo,m1,m2,hv,q1,q2,q3,A,⟨xs,N,hst⟩,⟨ys,S,hso⟩⟩:=hx;injection hv with O e2;subst O e2;obtain⟨tc,uc,rfl⟩:=A.iface;obtain⟨ta,P,rfl⟩:=A7 N.1;obtain⟨oa,U,rfl⟩:=A7 S.1;simp only[sfn];have n:wtS vs ls (.ife c t o)=(N9 vs c&&(kE vs c==0)&&Q9 vs ls t&&Q9 vs ls o):=(by simp only[wtS]);rw[n] at C;have me:=R1 A;have me1:=me.m;have me2:=me.c;obtain⟨Z,hZ⟩:∃Z,Z=w.alloc (Obj.cells #[.iface tc uc,.slice ta t.len P,.slice oa o.len U] 311):=⟨_,rfl⟩;have g:Below w.heap.size w Z:=(by rw[hZ];exact (Below.refl _ w).alloc (z5 _) _);have d:Z.heap[w.heap.size]? =some (.cells #[.iface tc uc,.slice ta t.len P,.slice oa o.len U] 311):=(by rw[hZ];exact A2);have a:=h.below g;have p0:Z.cell? ⟨w.heap.size,0,none⟩=some (.iface tc uc):=A1 (i:=0) d rfl;have cE:=hd (@hc bc bm lo m1 tc fst bs lv uc ls x Z (by omega) a (A.keep (w':=Z) (fun b cur _ _ hc=>g.block b (z4.1 hc).1)));generalize kfn c=FE at*;have hzb:w.heap.size≠bc:=a.ne d (by decide);have G:=hd (N.below g);have L:=hd (S.below g);have E:=hd (hst.belowZ g);have F:=hd (hso.belowZ g);have hKZ:=hd (Kc.below (bc:=bc) (lo:=lo) (hi:=hi) (u:=lv) g);replace C:=hd C;replace a:=hd a;replace d:=hd d;clear N S hst hso A hc me g;go_enter Tryz.func315,Tryz.ntmps315;go_wp2_with (fail);rw[←hZ];replace hZ:=hd hZ;generalize w.heap.size=z at*;refine cE.out _ ?_;intro w1 k O V B;have Q:=(V.tagX a.out d.out (by decide) (by decide) (by decide)).trans d.out;have l:=hd (G.out.kcX V a.out (by decide) (by decide) (by decide));have p:=hd (L.out.kcX V a.out (by decide) (by decide) (by decide));have r:=hd (E.out.kcX V a.out (.inl (z5 _)) (by omega));have q:=hd (F.out.kcX V a.out (.inl (by omega)) T);have y:=hd (hKZ.out.trans (V.wide (z5 _) (by omega)));replace O:=hd O;replace Q:=hd Q;replace B:=hd B;clear G L E F V cE;go_wp2_with (fail);refine J3 O.out _ _ ?_;intro ac j m;have f:=(m.block z hzb).trans Q.out;have p11:ac.cell? ⟨z,1,none⟩=some (.slice ta t.len P):=A1 (i:=1) f rfl;have lz1:z<ac.heap.size:=(z4.1 f).1;replace l:=hd (l.out.wx m O.out (by decide));replace p:=hd (p.out.wx m O.out (by decide));replace r:=hd (r.out.wx m (by omega));replace q:=hd (q.out.wx m T);have hx1:=hd (fun n=>m.ex (B.out n).2 (show m1≤bc by omega));replace y:=hd (y.out.trans m.kc);replace j:=hd j;replace f:=hd f;clear m;go_wp2_with (fail);refine A1y ht htl j.out l.out.1 r.out q2 (by omega) _ ?_;intro w2 lv2 e X v;have M:=(X.tagX j.out f.out (by decide) (by decide) (by decide)).trans f.out;have p22:w2.cell? ⟨z,2,none⟩=some (.slice oa o.len U):=A1 (i:=2) M rfl;have lz2:z<w2.heap.size:=(z4.1 M).1;have hrt2:=hd (l.out.kcX X j.out (by decide) (by decide) (by decide));have D:=hd (p.out.kcX X j.out (by decide) (by decide) (by decide));have ab:=hd (q.out.kcX X j.out (.inl (z5 _)) T);have hx2:=hd (fun n=>X.ex j.out (hx1.out n) (.inr (z5 _)) (show m1≤bc by omega));have hK2:=hd (y.out.trans (X.wide (by omega) (by omega)));replace e:=hd e;replace v:=hd v;clear l p r q hx1 p11 X M y;go_wp2_with (fail);refine A1y ho hol e.out D.out.1 ab.out q3 (by omega) _ ?_;intro w3 lv3 s Y I;have K:=hrt2.out.kcX Y e.out (by decide) (by decide) (by decide);have H:=D.out.kcX Y e.out (by decide) (by decide) (by decide);have J:=fun n=>(v.out n).kcX Y e.out (.inr (z5 _)) (show m2≤bc by omega);have hx3:=fun n=>Y.ex e.out (hx2.out n) (.inr (by omega)) (show m1≤bc by omega);rw[xw6 (b':=(kE vs c==0)) (fun n=>by rw[(B.out n).1])] at s;have aa:=hd (C.out w3 lv3 s (hK2.out.trans (Y.wide (by omega) (z5 _))) (fun n=>by simp only[z2] at n;exact⟨_,_,_,m1,m2,rfl,q1,q2,q3,hx3 n.1.1.1,⟨xs,K,J n.1.2⟩,⟨ys,H,I n.2⟩⟩));clear Y s I K H J hx3;go_wp2;go_end0;exact aa.out
theorem B3t {L:LB}(i:∀t∈L,Asc t):∀(f k:Nat) (r:List Vd×Nat),pDs L f k=some r→∀v∈r.1,O9 v.name
 |0,_,_,h=>by cases h
 |f+1,k,r,h=>by
  cases j:rlP (A0 L k) with
  |none=>
   rw[A0z j] at h;injection h with h;subst h;exact fun v b=>by cases b
  |some rl=>
   rw[A06 j] at h;unfold A47 at h;obtain⟨p,a,h⟩:=C8 h;obtain⟨q,m,h⟩:=z0.1 h;subst h;intro v b;rcases z3.1 b with rfl|b
   ·unfold vdP at a;obtain⟨t,g,a⟩:=C8 a;obtain⟨u,d,g⟩:=C8 g;obtain⟨o,l,d⟩:=C8 d;obtain⟨n,s,a⟩:=z0.1 a;rw[←a];have c:=(A4S.1 l).1;refine A0N c ?_;unfold A0 at c ⊢;rw[z6] at c ⊢;cases e:L[k+1]? with
    |none=>rw[e] at c;exact absurd c (by decide)
    |some t=>exact i t (z8 e)
   ·exact B3t i f _ _ m v b
theorem B00 {s:BA}{vs:List Vd}{body:Sl}(h:M8 s=some (vs,body)):∀v∈vs,O9 v.name:=by
 by_cases b:s.size≤700
 ·rw[A2h b] at h;obtain⟨L,d,h⟩:=C8 h;unfold A3U at h;obtain⟨p,g,h⟩:=C8 h;obtain⟨k,m,h⟩:=C8 h;obtain⟨q,i,h⟩:=C8 h;obtain⟨l,j,h⟩:=C8 h;obtain⟨_,a⟩:=D3.1 h;injection a with a;injection a with c f;subst c f;exact B3t (fun t e=>(A0i _ _ _ d t e).1.asc) _ _ _ g
 ·unfold M8 at h;rw[if_neg b] at h;cases h
end Go.Proofs.YtidhiaaicmfabaaGreatDoor
