/- Texts (its parts, joined). -/
import Derived.Test.YtidhiaaicmfabaaGreatDoorTqBK
import Derived.Test.YtidhiaaicmfabaaGreatDoorTqBG
open Option renaming bind_some→z0,map_some→z1
open Nat renaming le_refl→z2,zero_le→z3
namespace Go.Proofs.YtidhiaaicmfabaaGreatDoor
open Go.RowKit Go.Proofs Go.Deep
set_option maxRecDepth 100000
set_option maxHeartbeats 4000000
section
variable {B bp:Nat}{tv:VL}{L:LB}{w:WD}
theorem B8v {k d f:Nat}{D:Int}{sq:Nat→Option (Sl×Nat)}(m:SlD L sq f)(h:Du B bp tv L (some (k,D)) w)(n:A0b (A0 L k)=true)(j:(d:Int)≤D)(l:L.length<k+1+f)(c:d+1+f≤5000)(R:RP)(a:∀w' b,Du B bp tv L ((qSt L sq k).map (fun q=>(q.2,max D ((d:Int)+H7 q.1)))) w'→A8 bp w w'→w.heap.size≤b→b<w'.heap.size→(∀s k',qSt L sq k=some (s,k')→k<k'∧DZ TA s w.heap.size w'.heap.size w' b)→R (.returned (.pointer (some ⟨b,0,none⟩))) w'):Calls Tryz.prog 141 #[.pointer (some ⟨bp,0,none⟩),.int .i64 (d:Int)] w R:=by
 unfold qSt at a;by_cases i:O7 (A0 L k)=true
 ·rw[if_pos i] at a;exact B5E h i j (by omega) R a
 ·rw[if_neg i] at a;by_cases g:B6 (A0 L k) wIF=true
  ·rw[if_pos g] at a;exact B8Z m h g l c R a
  ·rw[if_neg g] at a;by_cases e:B6 (A0 L k) J5=true
   ·rw[if_pos e] at a;exact B4e m h e l c R a
   ·rw[if_neg e] at a;have o:B6 (A0 L k) X3=true:=(by unfold A0b at n;rw[show O7 (A0 L k)=false by simpa using i,show B6 (A0 L k) wIF=false by simpa using g,show B6 (A0 L k) J5=false by simpa using e] at n;exact n);rw[if_pos o] at a;exact B5J m h o l c R a
end
theorem B08 {s:BA}(h:A0b s=true):O7 s=true∨(O7 s=false∧(B6 s wIF=true∨(B6 s wIF=false∧(B6 s J5=true∨(B6 s J5=false∧B6 s X3=true))))):=by
 unfold A0b at h;by_cases e:O7 s=true
 ·exact .inl e
 ·have a:O7 s=false:=(by simpa using e);by_cases f:B6 s wIF=true
  ·exact .inr ⟨a,.inl f⟩
  ·have b:B6 s wIF=false:=(by simpa using f);by_cases d:B6 s J5=true
   ·exact .inr ⟨a,.inr ⟨b,.inl d⟩⟩
   ·have c:B6 s J5=false:=(by simpa using d);rw[a,b,c] at h;exact .inr ⟨a,.inr ⟨b,.inr ⟨c,h⟩⟩⟩
theorem C0u:Tryz.prog.underlying 98=some (.slice 181):=by kernel_rfl
theorem B6g:(Tryz.prog.info? 181).map (fun i=>(i.zero,i.size,i.bytes))=some (some (.pointer none),1,8):=by kernel_rfl
structure B70 (B bp:Nat)(tv:VL)(L:LB)(d k:Nat)(e:Option (Sl×Nat))(h:Option (Nat×Int))(w:WD)(g:Option Addr)(a f:Nat)(wr:WD)(b:Nat):Prop where
 ex:∃xs c,Du B bp tv L c wr∧A8 bp w wr∧wr.ownsRow w.heap.size 181 1 (.slice g a f) a xs∧(c=none→e=none∧h=none)∧∀p,c=some p→∃done,a=done.len∧k≤p.1∧a≤p.1∧L.length<p.1+b∧(d:Int)≤p.2∧DL TA (Value.slice g a f).ownBlock done w.heap.size wr.heap.size wr xs∧e=(qSl L b p.1).map (fun q=>(done.app q.1,q.2))∧h=yQ (qSl L b) (d:Int) p
theorem B7P {L:LB}{F:Nat}(hI:∀f,f<F→SlD L (qSl L f) f):SlD L (qSl L F) F:=by
 intro B bp tv st d w h hst hdf R z;cases st with
 |none=>
  obtain⟨k,D,V⟩:=h;have c2:w.cell? ⟨bp,2,none⟩=some (.bool true):=V.row.cell (i:=2) (by omega);have lb:=V.row.lt;have h0:Du B bp tv L none w:=⟨k,D,V⟩;replace h0:=hd h0;replace z:=hd z;clear V;go_enter Tryz.func88,Tryz.ntmps88;go_wp2;go_loopg [5] 1 (fun _ lv wr=>lv=.slice none 0 0∧wr=w);case atStart=>exact⟨rfl,rfl⟩
  case round=>
   obtain⟨rfl,rfl⟩:=hrel;go_wp2;exact A6 (z.out _ none 0 0 h0.out (A8.refl _ _) ⟨[],⟨World.ownsRow_nil _ _ _ _,by simp[Value.ownBlock]⟩,fun l k' e=>by cases e⟩ (fun p l k' e=>by cases e)) rfl
 |some p0=>
  obtain⟨k,D⟩:=p0;obtain⟨hd1,hk1⟩:=hst (k,D) rfl;simp only at hd1 hk1;have hbB:=h.blt;have hle:=h.le;have hkL:=h.kle;have hsm:=h.sm;simp only at hkL;simp only[z0] at z;obtain⟨F0,rfl⟩:∃F0,F=F0+1:=⟨F-1,by omega⟩;obtain⟨r0,er⟩:∃r,r=qSl L (F0+1) k:=⟨_,rfl⟩;obtain⟨sF,eF⟩:∃s,s=yQ (qSl L (F0+1)) (d:Int) (k,D):=⟨_,rfl⟩;replace z:∀w' H n M,Du B bp tv L sF w'→A8 bp w w'→DLU r0 w.heap.size w'.heap.size w' H n M→(∀l k',r0=some (l,k')→k≤k')→R (.returned (.slice H n M)) w':=fun w' H n M a1 a2 a3 a4=>z w' H n M (by rw[←eF];exact a1) a2 (by rw[←er];exact a3) (fun p l k' e1 e2=>by injection e1 with e1;subst e1;exact a4 l k' (by rw[er];exact e2));have y:B70 B bp tv L d k r0 sF w none 0 0 w (F0+1):=(by refine⟨[],some (k,D),h,A8.refl _ _,World.ownsRow_nil _ _ _ _,(fun e=>by cases e),fun p e=>?_⟩;injection e with e;subst e;refine⟨.nil,rfl,z2 _,z3 _,by simp only;omega,hd1,rfl,?_,eF⟩;rw[er];cases qSl L (F0+1) k<;>rfl);replace y:=hd y;replace z:=hd z;replace er:=hd er;replace eF:=hd eF;clear h hst;go_enter Tryz.func88,Tryz.ntmps88;go_wp2;go_loopg [5] (F0+2) (fun gk lv wr=>∃H E M gf,gf+1=gk∧gf≤F0+1∧lv=.slice H E M∧B70 B bp tv L d k r0 sF w H E M wr gf);case atStart=>exact⟨none,0,0,F0+1,rfl,z2 _,rfl,y.out⟩
  case round=>
   obtain⟨H,E,M,gf,hgk,hgF,rfl,xs,st,hdu,ab,G,hno,hyes⟩:=hrel;clear y;have hszr:=ab.size;cases st with
   |none=>
    obtain⟨a,m⟩:=hno rfl;obtain⟨k9,D9,hr9⟩:=hdu;have c2:wr.cell? ⟨bp,2,none⟩=some (.bool true):=hr9.row.cell (i:=2) (by omega);have lb:=hr9.row.lt;have h0:Du B bp tv L sF wr:=(by rw[m];exact⟨k9,D9,hr9⟩);have N:DLU r0 w.heap.size wr.heap.size wr H E M:=⟨xs,⟨G,fun g hg=>(G.lt g hg).2⟩,fun l k' e=>by rw[a] at e;cases e⟩;have P:∀l k',r0=some (l,k')→k≤k':=fun l k' e=>by rw[a] at e;cases e
    replace h0:=hd h0;replace N:=hd N;replace P:=hd P;replace ab:=hd ab;clear hr9 G hno hyes a m;go_wp2;exact A6 (z.out _ H E M h0.out ab.out N.out P.out) rfl
   |some p=>
    obtain⟨done,q1,q2,q3,q4,q5,q6,q7,q8⟩:=hyes p rfl;have hpL:p.1≤L.length:=hdu.kle;have c2:wr.cell? ⟨bp,2,none⟩=some (.bool false):=hdu.1.row.cell (i:=2) (by omega);have lb:=hdu.1.row.lt;obtain⟨J,hg0⟩:∃J,gf=J+1:=⟨gf-1,by omega⟩;subst hg0;have O:=hd G;replace q1:=hd q1;replace q6:=hd q6;replace q7:=hd q7;replace q8:=hd q8;clear hno hyes;go_wp2_with (fail);refine A1z hdu _ ?_;rw[show lkS L (some p)=A0 L p.1 from rfl];intro w1 h1 b1;unfold A2x;have hz1:=b1.size;have K1:((K7 (A0 L p.1):Int)==110)=O7 (A0 L p.1):=by
     cases e:O7 (A0 L p.1) with
     |true=>rw[A65.2 e];rfl
     |false=>
      have:K7 (A0 L p.1)≠110:=fun e2=>by rw[A65.1 e2] at e;cases e
      simp;omega
    have T1:=A0c (t:=A0 L p.1) B9s;have T2:=A0c (t:=A0 L p.1) B4r;have T3:=A0c (t:=A0 L p.1) B71;obtain⟨S,aa⟩:∃W,W=w1.alloc (Obj.cells #[.int .u8 (K7 (A0 L p.1):Int),.string (A0 L p.1)] 176):=⟨_,rfl⟩;have h2:Du B bp tv L (some p) S:=(by rw[aa];exact h1.alloc _);have o2:A8 bp wr S:=(by rw[aa];exact (A8.of_below b1).alloc _);have hz2:=o2.size;have u:=hd (A5 (w':=S) O.out (fun j hj _ _=>o2.block j (O.out.lt j hj).2 (by have:=(O.out.lt j hj).1;omega)));have hdl2:=hd ((q6.out.keep (o2.sm (by omega) (z2 _) _)).wide (z2 _) hz2);have on2:=ab.step o2;replace h1:=hd h1;replace b1:=hd b1;replace aa:=hd aa;clear G ab o2;cases v:A0b (A0 L p.1) with
    |false=>
     have hnb:O7 (A0 L p.1)=false∧B6 (A0 L p.1) wIF=false∧B6 (A0 L p.1) J5=false∧B6 (A0 L p.1) X3=false:=(by unfold A0b at v;simp only[Bool.or_eq_false_iff] at v;exact⟨v.1.1.1,v.1.1.2,v.1.2,v.2⟩);rw[hnb.1] at K1;have K2:((K7 (A0 L p.1):Int) !=110)=true:=(by rw[bne,K1];rfl);rw[hnb.2.1] at T1;rw[hnb.2.2.1] at T2;rw[hnb.2.2.2] at T3;have C:qSl L (J+1) p.1=some (.nil,p.1):=(by rw[qSl,if_neg (by rw[v];decide)]);have a:r0=some (done,p.1):=(by rw[q7.out,C];simp only[z1,Sl.app_nil]);have m:sF=some p:=(by rw[q8.out];unfold yQ;rw[C];simp only[z1,H8];rw[show max p.2 ((d:Int)+0)=p.2 by omega]);have hf1:Du B bp tv L sF S:=(by rw[m];exact h2);have N:DLU r0 w.heap.size S.heap.size S H E M:=⟨xs,⟨u.out,fun g hg=>(u.out.lt g hg).2⟩,fun l k' e=>by rw[a] at e;injection e with e;injection e with e _;subst e;exact⟨q1.out,hdl2.out⟩⟩;have P:∀l k',r0=some (l,k')→k≤k':=fun l k' e=>by rw[a] at e;injection e with e;injection e with _ e;omega
     replace hf1:=hd hf1;replace N:=hd N;replace P:=hd P;replace v:=hd v;replace a:=hd a;replace m:=hd m;replace C:=hd C;replace h2:=hd h2;replace on2:=hd on2;clear hnb;generalize K7 (A0 L p.1)=K at*;generalize A0 L p.1=t at*;go_wp2;rw[←aa.out];exact A6 (z.out _ H E M hf1.out on2.out N.out P.out) rfl
    |true=>
     have C:qSl L (J+1) p.1=(qSt L (qSl L J) p.1).bind (fun s=>(xS L wSC s.2).bind (fun k1=>(qSl L J k1).bind (fun q=>some (.cons s.1 q.1,q.2)))):=(by rw[qSl,if_pos v]);have hS0:SlD L (qSl L J) J:=hI J (by omega);obtain⟨rS,eS⟩:∃r,r=qSt L (qSl L J) p.1:=⟨_,rfl⟩;have hcase:=B08 v;have hds:∀R':RP,(∀w' b,Du B bp tv L (rS.map (fun q=>(q.2,max p.2 ((d:Int)+H7 q.1)))) w'→A8 bp S w'→S.heap.size≤b→b<w'.heap.size→(∀s k',rS=some (s,k')→p.1<k'∧DZ TA s S.heap.size w'.heap.size w' b)→R' (.returned (.pointer (some ⟨b,0,none⟩))) w')→Calls Tryz.prog 141 #[.pointer (some ⟨bp,0,none⟩),.int .i64 (d:Int)] S R':=fun R' f'=>B8v hS0 (k:=p.1) (D:=p.2) h2 v q5 (by omega) (by omega) R' (by rw[←eS];exact f');have K2:((K7 (A0 L p.1):Int) !=110)= !O7 (A0 L p.1):=(by rw[bne,K1]);replace hds:=hd hds;replace v:=hd v;replace C:=hd C;replace eS:=hd eS;replace h2:=hd h2;generalize K7 (A0 L p.1)=K at*;generalize A0 L p.1=t at*;rcases hcase with n1|⟨n1,n2|⟨n2,n3|⟨n3,n4⟩⟩⟩;all_goals
      rw[n1] at K1 K2
      first|rw[n2] at T1|skip
      first|rw[n3] at T2|skip
      first|rw[n4] at T3|skip
      go_wp2_with (fail)
      rw[←aa.out]
      refine hds.out _ ?_
      intro w3 b h3 o3 hb1 hb2 hb3
      have hz3:=o3.size
      have hown3:=A5 (w':=w3) u.out (fun j hj _ _=>o3.block j (u.out.lt j hj).2 (by have:=(u.out.lt j hj).1;omega))
      have T:=hdl2.out.keep (o3.sm (by omega) (z2 _) _)
      have on3:=on2.step o3
      have X:∀g,(Value.slice H E M).ownBlock=some g→w.heap.size≤g∧g<S.heap.size:=fun g hg=>u.out.lt g hg
      have V:=hd hown3
      replace T:=hd T
      replace h3:=hd h3
      replace hb3:=hd hb3
      replace X:=hd X
      replace on3:=hd on3
      clear o3 hown3 hds u hdl2 on2
      go_wp2_with (first|(at_builtin;refine I5 _ rfl _ _ 98 rfl w.heap.size 181 _ 1 8 C0u B6g rfl (by decide) _ E xs rfl (by exact V.out.alloc _) ⟨w3.heap.size,0,none⟩ 1 1 [.pointer (some ⟨b,0,none⟩)] rfl rfl (by exact S5 (A6r (by simp))) (A76 _) (by unfold maxLen;omega) (by omega) (by simp;omega) ?_;intro v4 w4 o A hl4;obtain⟨Y,Z,rfl⟩:=A7 o;replace o:=hd o;replace A:=hd A;replace hl4:=hd hl4))
      have hk4:∀c,c<w3.heap.size→(Value.slice H E M).ownBlock≠some c→w4.heap[c]? =w3.heap[c]? :=fun i hi hne=>(A.out.block i (by simp;omega) (fun e=>hne e.symm)).trans (Below.heap_alloc _ _ _ hi)
      have hz4:w3.heap.size+1≤w4.heap.size:=by have:=A.out.size;simp at this;omega
      have h4:=h3.out.grow (w':=w4) (lv:=Value.slice H E M) (by omega) hk4 (fun g hg=>by have:=(X.out g hg).1;omega)
      have on4:A8 bp w w4:=(on3.out.alloc _).grown A.out (fun g hg=>.inr (X.out g hg).1)
      have hst4:∀s k',rS=some (s,k')→p.1<k'∧DZ TA s S.heap.size w3.heap.size w4 b:=fun s k' e=>⟨(hb3.out s k' e).1,(hb3.out s k' e).2.kp (fun c c1 c2 _=>hk4 c c2 (fun e=>by have:=(X.out c e).2;omega))⟩
      have hoff:Off (Value.slice Y (E+1) Z).ownBlock S.heap.size w3.heap.size∧DL TA (Value.slice Y (E+1) Z).ownBlock done w.heap.size S.heap.size w4 xs:=by
       have hd4:=T.out.keep (w':=w4) (fun c c1 c2 c3=>hk4 c (by omega) c3);rcases hl4.out with e|⟨e,_⟩
       ·rw[e];exact⟨fun x U=>.inl (X.out x U).2,hd4⟩
       ·have hge:∀x,(Value.slice Y (E+1) Z).ownBlock=some x→w3.heap.size≤x:=fun x U=>by rw[e] at U;injection U with U;simp at U;omega
        exact⟨fun x U=>.inr (hge x U),hd4.hole (fun x U=>.inr (by have:=hge x U;omega))⟩
      have Q:∀s k',rS=some (s,k')→p.1<k'∧DL TA (Value.slice Y (E+1) Z).ownBlock (done.app (.cons s .nil)) w.heap.size w4.heap.size w4 (xs++[.pointer (some ⟨b,0,none⟩)]):=fun s k' e=>⟨(hst4 s k' e).1,DL.snoc (hst4 s k' e).2 hz3 (by omega) hoff.1 (by omega) hoff.2⟩
      replace Q:=hd Q
      clear hoff hst4 hk4 A hl4 V T h3 hb3 on3
      refine P3 (s:=wSC) h4 (by decide) (.inr (by kernel_rfl)) _ ?_
      obtain⟨s5,e5⟩:∃s,s=(rS.map (fun q=>(q.2,max p.2 ((d:Int)+H7 q.1)))).bind (yS L wSC):=⟨_,rfl⟩
      rw[←e5]
      intro w5 h5 o5
      have hz5:=o5.size
      have I:B70 B bp tv L d k r0 sF w Y (E+1) Z w5 J:=by
       have a:=q7.out;have m:=q8.out;unfold yQ at m;rw[C.out,←eS.out] at a m;refine⟨xs++[.pointer (some ⟨b,0,none⟩)],s5,h5,on4.step o5,A5 o.out (fun j hj _ _=>o5.block j (o.out.lt j hj).2 (by have:=(o.out.lt j hj).1;omega)),fun e=>?_,fun p5 e=>?_⟩
       ·cases V:rS with
        |none=>rw[V] at a m;exact⟨a,m⟩
        |some s=>
         rw[V] at a m e5;simp only[z1,z0] at e5 a m;have U:xS L wSC s.2=none:=by
          cases U:xS L wSC s.2 with
          |none=>rfl
          |some k1=>
           have:yS L wSC (s.2,max p.2 ((d:Int)+H7 s.1))=some (k1,max p.2 ((d:Int)+H7 s.1)):=Q2.2 ⟨U,rfl⟩;rw[←e5,e] at this;cases this
         rw[U] at a m;exact⟨a,m⟩
       ·cases V:rS with
        |none=>rw[V] at e5;rw[e5] at e;cases e
        |some s=>
         rw[V] at a m e5;simp only[z1,z0] at e5 a m;rw[e] at e5;obtain⟨x1,x2⟩:=Q2.1 e5.symm;simp only at x1 x2;have x3:=(C9 x1).2;obtain⟨x4,x5⟩:=Q.out s.1 s.2 (by rw[V]);have hp5:p5.1≤L.length:=(by rw[e] at h5;exact h5.kle);have n5:=A62 s.1;rw[x1] at a m;simp only[z0] at a m;refine⟨done.app (.cons s.1 .nil),by rw[Sl.len_app,←q1.out];rfl,by omega,by omega,by omega,by omega,(x5.keep (o5.sm (by omega) (z2 _) _)).wide (z2 _) hz5,?_,?_⟩
         ·rw[a];cases qSl L J p5.1 with
          |none=>rfl
          |some q=>simp only[z0,z1,Sl.app_assoc];rfl
         ·rw[m];unfold yQ;cases qSl L J p5.1 with
          |none=>rfl
          |some q=>
           simp only[z0,z1,H8];rw[x2];congr 2;omega
      replace I:=hd I
      replace e5:=hd e5
      clear h5 o5 on4 o h4 Q
      go_wp2
      go_roundg (J+1)
      case measure=>omega
      case rel=>exact⟨Y,E+1,Z,J,rfl,by omega,rfl,I.out⟩
theorem slD (L:LB)(F:Nat):SlD L (qSl L F) F:=by
 induction F using Nat.strongRecOn with
 |ind F ih=>exact B7P ih
section
def yC (L:LB)(p:Nat×Int):Option (Nat×Int):=(kdP L p.1).map (fun q=>(q.2,p.2))
theorem B4y:A1E.toList=[66,79,79,76]:=by kernel_rfl
theorem B72:A4l.toList=[73,78,84]:=by kernel_rfl
theorem B4X:A1b.toList=[68,73,78,84]:=by kernel_rfl
section
variable {B bp:Nat}{tv:VL}{L:LB}{st:Option (Nat×Int)}{w:WD}
theorem A9A (h:Du B bp tv L st w)(R:RP)(g:∀w' c,Du B bp tv L (st.bind (yC L)) w'→A8 bp w w'→(∀p c' k',st=some p→kdP L p.1=some (c',k')→c=c')→R (.returned (.int .i64 ((c:Nat):Int))) w'):Calls Tryz.prog 87 #[.pointer (some ⟨bp,0,none⟩)] w R:=by
 have ac:=h.blt;have aa:=h.sm;replace g:=hd g;go_enter Tryz.func87,Tryz.ntmps87;go_wp2_with (fail);refine A1z h _ ?_;intro w1 C E;unfold A2x;have ab:=C.le;obtain⟨k,P,D,r,z⟩:=C.dr;have c1:w1.cell? ⟨bp,1,none⟩=some (.int .i64 k):=r.row.cell (i:=1) (by omega);have f1:=r.row.frozen 1;have c2:w1.cell? ⟨bp,2,none⟩=some (.bool P):=r.row.cell (i:=2) (by omega);have f2:=r.row.frozen 2;have lb:=r.row.lt;obtain⟨kk,O⟩:∃kk,IntKind.i64.wrap (k+1)=kk:=⟨_,rfl⟩;obtain⟨t,A⟩:∃t,t=lkS L st:=⟨_,rfl⟩;rw[←A];have X:=A0c (t:=t) B4y;have U:=A0c (t:=t) B72;have V:=A0c (t:=t) B4X;have d:∀s,s.size≠0→B6 t s=true→∃p,st=some p∧B6 (A0 L p.1) s=true∧kk=(p.1:Int)+1∧p.1<L.length:=fun s T e=>by obtain⟨p,f,j,u⟩:=A8N h (by rw[←A,U3 e];exact T);obtain⟨n,_,_,_⟩:=z p f;refine⟨p,f,by rw[←u,←A];exact e,?_,j⟩;rw[←O,n];exact IntWalk.i64_in _ (by omega)
 have G:∀p,st=some p→kk=(p.1:Int)+1→p.1<L.length→Du B bp tv L (some (p.1+1,p.2)) ((w1.setCell ⟨bp,1,none⟩ (.int .i64 kk)).alloc (Obj.cells #[.int .u8 (K7 t:Int),.string t] 176)):=fun p f j u=>by rw[j];subst f;exact (C.next u).alloc _
 have Q:=hd (((A8.of_below (b:=bp) E).setCell (a:=⟨bp,1,none⟩) (.inl rfl) (.int .i64 kk)).alloc (Obj.cells #[.int .u8 (K7 t:Int),.string t] 176));have hB:Du B bp tv L none (((w1.setCell ⟨bp,1,none⟩ (.int .i64 kk)).setCell ⟨bp,2,none⟩ (.bool true)).alloc (Obj.cells #[.int .u8 (K7 t:Int),.string t] 176)):=(by obtain⟨k1,E,Z,o,_⟩:=C.dr;exact (show Du B bp tv L none _ from ⟨kk,Z,(o.setAt kk).setBad true⟩).alloc _);have Y:=hd ((((A8.of_below (b:=bp) E).setCell (a:=⟨bp,1,none⟩) (.inl rfl) (.int .i64 kk)).setCell (a:=⟨bp,2,none⟩) (.inl rfl) (.bool true)).alloc (Obj.cells #[.int .u8 (K7 t:Int),.string t] 176));have l:B6 t A1E=false→B6 t A4l=false→B6 t A1b=false→∀p,st=some p→kdP L p.1=none:=fun f j u p e=>by have ep:t=A0 L p.1:=(by rw[A,e];rfl);rw[ep] at f j u;unfold kdP xS;rw[f,j,u];rfl
 replace G:=hd G;replace hB:=hd hB;replace d:=hd d;replace l:=hd l;replace C:=hd C;replace E:=hd E;replace r:=hd r;replace z:=hd z;replace A:=hd A;clear h;generalize K7 t=K at*;cases M:B6 t A1E with
 |true=>
  rw[M] at X;obtain⟨p,f,j,u,F⟩:=d.out A1E (by decide) M;have o:st.bind (yC L)=some (p.1+1,p.2):=(by rw[f];simp only[z0];unfold yC kdP;rw[if_pos j];rfl);rw[o] at g;replace o:=hd o;have x:=hd (G.out p f u F);have y:=hd (show ∀q c' k',st=some q→kdP L q.1=some (c',k')→0=c' from fun q c' k' n m=>by rw[f] at n;injection n with n;subst n;unfold kdP at m;rw[if_pos j] at m;injection m with m;injection m);clear f u j;go_wp2;exact A6 (g.out _ 0 x.out Q.out y.out) rfl
 |false=>
  rw[M] at X;cases J:B6 t A4l with
  |true=>
   rw[J] at U;obtain⟨p,f,j,u,F⟩:=d.out A4l (by decide) J;have v:B6 (A0 L p.1) A1E=false:=(by rw[U3 j];kernel_rfl);have o:st.bind (yC L)=some (p.1+1,p.2):=(by rw[f];simp only[z0];unfold yC kdP;rw[v,if_pos j];rfl);rw[o] at g;replace o:=hd o;have x:=hd (G.out p f u F);have y:=hd (show ∀q c' k',st=some q→kdP L q.1=some (c',k')→1=c' from fun q c' k' n m=>by rw[f] at n;injection n with n;subst n;unfold kdP at m;rw[v,if_pos j] at m;injection m with m;injection m);clear f u j v;go_wp2;exact A6 (g.out _ 1 x.out Q.out y.out) rfl
  |false=>
   rw[J] at U;cases I:B6 t A1b with
   |true=>
    rw[I] at V;obtain⟨p,f,j,u,F⟩:=d.out A1b (by decide) I;have v:B6 (A0 L p.1) A1E=false:=(by rw[U3 j];kernel_rfl);have H:B6 (A0 L p.1) A4l=false:=(by rw[U3 j];kernel_rfl);have S:kdP L p.1=some (2,p.1+1):=(by unfold kdP xS;rw[v,H,if_pos j];rfl);have o:st.bind (yC L)=some (p.1+1,p.2):=(by rw[f];simp only[z0];unfold yC;rw[S];rfl);rw[o] at g;replace o:=hd o;have x:=hd (G.out p f u F);have y:=hd (show ∀q c' k',st=some q→kdP L q.1=some (c',k')→2=c' from fun q c' k' n m=>by rw[f] at n;injection n with n;subst n;rw[S] at m;injection m with m;injection m);clear f u j v H S;go_wp2;exact A6 (g.out _ 2 x.out Q.out y.out) rfl
   |false=>
    rw[I] at V;have N:=l.out M J I;have o:st.bind (yC L)=none:=by
     cases T:st with
     |none=>rfl
     |some p=>simp only[z0];unfold yC;rw[N p T];rfl
    rw[o] at g;replace o:=hd o;have y:=hd (show ∀q c' k',st=some q→kdP L q.1=some (c',k')→0=c' from fun q c' k' n m=>by rw[N q n] at m;cases m);replace N:=hd N;go_wp2;exact A6 (g.out _ 0 hB.out Y.out y.out) rfl
end
end
def yT (L:LB)(p:Nat×Int):Option (Nat×Int):=(tyP L p.1).map (fun t=>(t.2,p.2))
theorem B9i {L:LB}{rl:Nat}{p:Nat×Int}{b f:Option (Nat×Int)}(a:b=(yK L 110 p).bind (yS L wCO))(j:f=(b.bind (yT L)).bind (yS L wSC)):(vdP L rl p.1).map (fun q=>(q.2,p.2))=f∧∀v k',vdP L rl p.1=some (v,k')→∃q t,b=some q∧K3 L 110 (some p)=A0 L p.1∧tyP L q.1=some t∧v=⟨A0 L p.1,rl,t.1.1,t.1.2.1,t.1.2.2⟩:=by
 subst j;unfold vdP;cases e:xN L p.1 with
 |none=>
  rw[show yK L 110 p=none from B5j e] at a;rw[a];exact⟨rfl,fun v k' h=>by cases h⟩
 |some k1=>
  have g:yK L 110 p=some (k1,p.2):=A8s.2 ⟨e,rfl⟩;have G:K3 L 110 (some p)=A0 L p.1:=(by unfold K3;simp only[z0];rw[g];rfl);rw[g] at a;simp only[z0] at a ⊢;cases c:xS L wCO k1 with
  |none=>
   rw[A0P c] at a;rw[a];exact⟨rfl,fun v k' h=>by cases h⟩
  |some k2=>
   have i:b=some (k2,p.2):=(by rw[a];exact Q2.2 ⟨c,rfl⟩);rw[i];simp only[z0,yT];cases k:tyP L k2 with
   |none=>exact⟨rfl,fun v k' h=>by cases h⟩
   |some t=>
    simp only[z0,z1];cases d:xS L wSC t.2 with
    |none=>rw[A0P d];exact⟨rfl,fun v k' h=>by cases h⟩
    |some k4=>
     refine⟨?_,fun v k' h=>⟨_,t,rfl,G,k,?_⟩⟩
     ·simp only[z1];symm;exact Q2.2 ⟨d,rfl⟩
     ·simp only[z1] at h;injection h with h;injection h with h _;exact h.symm
def dcV (v:Vd):List VL:=[.int .i64 (v.role:Int),.string v.name,.int .i64 (v.kind:Int),.int .i64 (if v.arr then c40 v.len else -1)]
def dcL (vs:List Vd):List VL:=vs.flatMap dcV
theorem C0y:Tryz.prog.underlying 97=some (.slice 102):=by kernel_rfl
theorem A8v:(Tryz.prog.info? 102).map (fun i=>(i.zero,i.size,i.bytes))=some (some (.agg #[.int .i64 0,.string ⟨#[]⟩,.int .i64 0,.int .i64 0]),4,40):=by kernel_rfl
theorem B2O {L:LB}{k:Nat}(h:B6 (A0 L k) N8=true):tyP L k=some ((3,false,1),k+1):=by unfold tyP;rw[if_pos h]
theorem B3y {L:LB}{k:Nat}(h:B6 (A0 L k) N8=false)(b:B6 (A0 L k) R3=true):tyP L k=(A2n L (k+1)).bind (fun n=>(xS L wOF n.2).bind (fun a=>(kdP L a).map (fun c=>((c.1,true,n.1),c.2)))):=by unfold tyP;rw[h,if_pos b];rfl
theorem B1L {L:LB}{k:Nat}(h:B6 (A0 L k) N8=false)(a:B6 (A0 L k) R3=false):tyP L k=(kdP L k).map (fun c=>((c.1,false,1),c.2)):=by unfold tyP;rw[h,a];rfl
theorem B2E {L:LB}{p:Nat×Int}:yK L 100 p=(A2n L p.1).map (fun n=>(n.2,p.2)):=by
 unfold yK A2n;by_cases c:Y8 (A0 L p.1)=true
 ·rw[if_pos (A46.2 c),if_pos c];rfl
 ·rw[if_neg (fun e=>c (A46.1 e)),if_neg c];rfl
theorem B9A:wIN.toList=[73,78]:=by kernel_rfl
theorem B7B:A5X.toList=[79,85,84]:=by kernel_rfl
theorem B7w:A8h.toList=[86,65,82]:=by kernel_rfl
structure DcU (B bp:Nat)(tv:VL)(L:LB)(r0:Option (List Vd×Nat))(w:WD)(pb lo:Nat)(wr:WD)(gf:Nat):Prop where
 ex:∃ao nn cp vs st,Du B bp tv L st wr∧Below w.heap.size w wr∧wr.ownsRow lo 102 4 (.slice ao nn cp) nn (dcL vs)∧lo≤wr.heap.size∧nn=vs.length∧wr.heap[pb]? =some (.cells #[.slice ao nn cp,.slice none 0 0] 100)∧(st=none→r0=none)∧∀p,st=some p→p.2=0∧nn≤p.1∧L.length<p.1+gf∧r0=(pDs L gf p.1).map (fun q=>(vs++q.1,q.2))
theorem A8.bel {bp z:Nat}{w w1 a:WD}(h:Below z w w1)(o:A8 bp w1 a)(b:z≤bp)(c:z≤w1.heap.size):Below z w a:=h.trans (o.below b c)
def tkL (L:LB):List VL:=L.flatMap (fun s=>[.int .u8 (K7 s:Int),.string s])
theorem B22:∀(L:LB) (j:Nat) (s:BA),L[j]? =some s→(tkL L)[j*2]? =some (.int .u8 (K7 s:Int))∧(tkL L)[j*2+1]? =some (.string s)
 |[],j,s,h=>by simp at h
 |t::L,0,s,h=>by
  simp only[List.getElem?_cons_zero,Option.some.injEq] at h;subst h;exact⟨rfl,rfl⟩
 |t::L,j+1,s,h=>by
  have:=B22 L j s (by simpa using h);have e:tkL (t::L)=.int .u8 (K7 t:Int)::.string t::tkL L:=rfl;rw[e,show (j+1)*2=j*2+1+1 by omega];exact⟨by simpa using this.1,by simpa using this.2⟩
def TkA (s:BA)(w:WD):Prop:=∀R:RP,((spF s.size s).bind A3U=none→∀w',Below w.heap.size w w'→R (.returned (.tuple #[.slice none 0 0,.bool false])) w')→(∀L,spF s.size s=some L→∀v w',Below w.heap.size w w'→w'.ownsRow w.heap.size 176 2 v L.length (tkL L)→R (.returned (.tuple #[v,.bool true])) w')→Calls Tryz.prog 81 #[.string s] w R
structure DPg (lo:Nat)(w:WD)(vs:List Vd)(body:Sl)(pb:Nat):Prop where
 ex:∃ao cp bo bc xs,w.heap[pb]? =some (.cells #[.slice ao vs.length cp,.slice bo body.len bc] 100)∧lo≤pb∧w.ownsRow lo 102 4 (.slice ao vs.length cp) vs.length (dcL vs)∧∃m,lo≤m∧pb<m∧(∀g,(Value.slice ao vs.length cp).ownBlock=some g→g<m)∧C2 w m w.heap.size 181 1 (.slice bo body.len bc) body.len xs∧DL TA (Value.slice bo body.len bc).ownBlock body m w.heap.size w xs
theorem Prt.tk {p:BA}(h:Prt p)(l:p.size≤700):A5k p:=by
 refine⟨h.1,by omega,fun f c i=>?_⟩;obtain⟨j,e⟩:=List.mem_iff_getElem?.1 i;have b:j<p.size:=(by have:=(List.getElem?_eq_some_iff.1 e).1;simpa using this);obtain⟨b',d,g⟩:=A1s p j b;rw[e] at d;injection d with d;rw[d,←g];have hd:=(A2g f).2;rcases h.2 with ⟨a,_⟩|a|a|⟨a,k⟩
 ·rw[B5i a] at hd;cases hd
 ·have:=a j b;simp only[I4,Bool.and_eq_true,decide_eq_true_eq] at this;exact this
 ·rw[a] at hd;exact absurd hd (by decide)
 ·have:j=0:=(by omega);subst this;simp only[I4,Bool.and_eq_true,decide_eq_true_eq] at hd;exact hd
theorem A2h {s:BA}(b:s.size≤700):M8 s=(spF s.size s).bind A3U:=by
 unfold M8;rw[if_pos b];cases h:spF s.size s with
 |none=>rfl
 |some L=>exact B51 (fun t a=>(A0i _ _ _ h t a).1.1)
theorem A6e:∀(n:Nat) (s:BA) (l:LB),spF n s=some l→l.length≤n
 |0,s,l,h=>by simp only[spF,Option.some.injEq] at h;subst h;exact z2 _
 |n+1,s,l,h=>by
  simp only[spF] at h;by_cases b:s.size=0
  ·rw[if_pos b] at h;injection h with h;subst h;exact z3 _
  ·rw[if_neg b] at h;by_cases a:flV s=0
   ·rw[if_pos a] at h;cases h
   ·rw[if_neg a] at h;obtain⟨r,c,e⟩:=Option.map_eq_some_iff.1 h;have d:=A6e n _ r c;rw[←e];split
    ·omega
    ·simp only[List.length_cons];omega
theorem B3i {w1:WD}{c:Nat}{f:Option Addr}{h:Nat}{L:LB}(b:w1.ownsRow c 176 2 (.slice f L.length h) L.length (tkL L))(t:L.length≤1000)(n:∀s∈L,A5k s):Du (w1.heap.size+1) w1.heap.size (.slice f L.length h) L (some (0,0)) ((w1.alloc (Obj.cells #[.slice f L.length h,.int .i64 0,.bool false,.int .i64 0] 174)).alloc (Obj.cells #[.slice none 0 0,.slice none 0 0] 100)):=by
 refine⟨⟨R5 ((Below.heap_alloc _ _ _ (by simp)).trans A2) rfl (fun i hi=>?_),Nat.lt_succ_self _,by simp,t,n,f,h,rfl,?_,fun E=>?_⟩,z3 _⟩
 ·have:i=0∨i=1∨i=2∨i=3:=(by omega);rcases this with rfl|rfl|rfl|rfl<;>rfl
 ·rcases b.2 with ⟨d,v⟩|⟨g,cap,cur,d,m,o,l,_⟩
  ·omega
  ·injection d with _ _ k;omega
 ·rcases b.2 with ⟨d,v⟩|⟨g,cap,cur,d,m,o,l,A,u,z⟩
  ·omega
  ·injection d with k _ D;have y:g<w1.heap.size:=(Array.getElem?_eq_some_iff.1 o).1;refine⟨g,k,by omega,by omega,fun j x r=>?_⟩;obtain⟨C,B⟩:=B22 L j x r;have a:=b.cells (g:=g) (by rw[k];rfl);have e:∀i,(⟨g,0,none⟩:Addr).add i=⟨g,i,none⟩:=fun i=>by unfold Addr.add;split<;>simp_all
   have p:=a _ _ C;have q:=a _ _ B;rw[e] at p q;exact⟨A1a (A1a p _) _,A1a (A1a q _) _⟩
end Go.Proofs.YtidhiaaicmfabaaGreatDoor
