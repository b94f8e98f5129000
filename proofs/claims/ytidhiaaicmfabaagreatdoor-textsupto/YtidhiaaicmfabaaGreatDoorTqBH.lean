/- Texts (its parts, joined). -/
import Derived.Lib.ParseIntB
import Derived.Test.YtidhiaaicmfabaaGreatDoorTqBF
import Derived.Test.YtidhiaaicmfabaaGreatDoorTqAF
open Option renaming bind_some→z0,map_some→z3
open Nat renaming le_refl→z2,le_trans→y9,zero_le→x0
open List renaming getElem?_eq_getElem→z5,mem_of_getElem?→z7,head?_cons→z9,take_of_length_le→y4,foldl_cons→y5
open Array renaming getElem?_eq_some_iff→y0
open Bool renaming and_eq_false_iff→y6
namespace Go.Proofs.YtidhiaaicmfabaaGreatDoor
open Go.RowKit Go.Proofs Go.Deep
set_option maxRecDepth 100000
set_option maxHeartbeats 4000000
open World renaming size_setCell→z1,cell?_setCell_other→y1,cell?_of_block→y7
open IntWalk renaming i64_in→z4
open Below renaming heap_setCell→y8
def A2l (acc:Nat)(l:List UInt8):Nat:=l.foldl (fun a c=>a*10+(c.toNat-48)) acc
theorem A4a (acc:Nat):A2l acc []=acc:=rfl
theorem A3l (acc:Nat)(c:UInt8)(r:List UInt8):A2l acc (c::r)=A2l (acc*10+(c.toNat-48)) r:=by simp only[A2l,y5]
theorem B4E (l:List UInt8):∀(acc:Nat),acc≤A2l acc l:=by
 induction l with
 |nil=>exact fun _=>z2 _
 |cons c r ih=>exact fun acc=>y9 (by omega) (ih (acc*10+(c.toNat-48)))
def DgL (l:List UInt8):Prop:=∀c∈l,48≤c.toNat∧c.toNat≤57
theorem A5x (l:List UInt8):∀(acc:Nat),DgL l→acc≤18446744073709551615→(Lib.parseUintM 18446744073709551615 acc l=.ok (A2l acc l)∧A2l acc l≤18446744073709551615)∨(Lib.parseUintM 18446744073709551615 acc l=.range∧18446744073709551615<A2l acc l):=by
 induction l with
 |nil=>intro acc _ h;exact .inl ⟨by rw[Lib.parseUintM,A4a],by rw[A4a];exact h⟩
 |cons c r ih=>
  intro acc hd h;have g:=hd c (List.mem_cons_self ..);have d:DgL r:=fun x f=>hd x (List.mem_cons_of_mem _ f);have e:=B4E r (acc*10+(c.toNat-48));rw[Lib.parseUintM,if_pos g];by_cases a:1844674407370955162≤acc
  ·rw[if_pos a];exact .inr ⟨rfl,by rw[A3l];omega⟩
  ·rw[if_neg a];by_cases b:18446744073709551615<acc*10+(c.toNat-48)
   ·rw[if_pos b];exact .inr ⟨rfl,by rw[A3l];omega⟩
   ·rw[if_neg b];exact ih _ d (by omega)
def c40 (n:Int):Int:=max (-1099511627776) (min n 1099511627776)
theorem B44 {l:List UInt8}(hd:DgL l)(f:l≠[]):(match Lib.parseIntB 64 l with | .ok v=>v | .syntax=>0 | .range=>Lib.intSat 64 l)=min (A2l 0 l:Int) 9223372036854775807:=by
 cases l with
 |nil=>exact absurd rfl f
 |cons c r=>
  have i:=hd c (List.mem_cons_self ..);have e:¬(c.toNat=43∨c.toNat=45):=(by omega);have a:¬c.toNat=45:=(by omega);have g:Lib.parseUintB 64 (c::r)=Lib.parseUintM 18446744073709551615 0 (c::r):=(by unfold Lib.parseUintB;rw[if_neg (by simp)]);unfold Lib.parseIntB;simp only[if_neg e,g];rcases A5x (c::r) 0 hd (by omega) with ⟨b,h⟩|⟨b,h⟩
  ·rw[b];simp only[a,not_false_eq_true,true_and,false_and,if_false];by_cases d:2 ^ (64-1)≤A2l 0 (c::r)
   ·rw[if_pos d];simp only[Lib.intSat,z9,z3,Option.some.injEq,a,if_false];omega
   ·rw[if_neg d];simp only;omega
  ·rw[b];simp only[Lib.intSat,z9,z3,Option.some.injEq,a,if_false];omega
theorem B4Y {l:List UInt8}(hd:DgL l)(e:l≠[]):(match Lib.parseIntB 64 (45::l) with | .ok v=>v | .syntax=>0 | .range=>Lib.intSat 64 (45::l))= -(min (A2l 0 l:Int) 9223372036854775808):=by
 have d:Lib.parseUintB 64 l=Lib.parseUintM 18446744073709551615 0 l:=(by unfold Lib.parseUintB;rw[if_neg e]);have a:(45:UInt8).toNat=45:=rfl;unfold Lib.parseIntB;simp only[a,or_true,if_true,d];rcases A5x l 0 hd (by omega) with ⟨b,f⟩|⟨b,f⟩
 ·rw[b];simp only[not_true_eq_false,true_and,false_and,if_false];by_cases c:2 ^ (64-1)<A2l 0 l
  ·rw[if_pos c];simp only[Lib.intSat,z9,z3,a,if_true];omega
  ·rw[if_neg c];simp only;omega
 ·rw[b];simp only[Lib.intSat,z9,z3,a,if_true];omega
def A0F (acc:Int)(l:List UInt8):Int:=l.foldl (fun a c=>min (10*a+(c.toNat-48:Nat)) 1099511627776) acc
theorem B0E (acc:Int)(c:UInt8)(r:List UInt8):A0F acc (c::r)=A0F (min (10*acc+(c.toNat-48:Nat)) 1099511627776) r:=by simp only[A0F,y5]
theorem B0h (l:List UInt8):∀(acc:Nat),A0F (min (acc:Int) 1099511627776) l=min (A2l acc l:Int) 1099511627776:=by
 induction l with
 |nil=>intro acc;rw[A4a];rfl
 |cons c r ih=>
  intro acc;rw[B0E,A3l,←ih];congr 1;omega
section
def K7 (s:BA):Nat:=if s.size=0 then 0 else if O7 s then 110 else if Y8 s then 100 else if I3 (bt s 0) then 119 else 115
def A5k (s:BA):Prop:=s.size≠0∧s.size≤1000∧(Y8 s=true→DgL s.data.toList)
def A2x (s:BA):VL:=.agg #[.int .u8 (K7 s:Int),.string s]
def drF (tv:VL)(k:Int)(bad:Bool)(D:Int)(j:Nat):VL:=if j=0 then tv else if j=1 then .int .i64 k else if j=2 then .bool bad else .int .i64 D
structure Dr (B bp:Nat)(tv:VL)(L:LB)(k:Int)(bad:Bool)(D:Int)(w:WD):Prop where
 row:w.rowIs bp 174 4 (drF tv k bad D)
 lt:bp<B
 le:B≤w.heap.size
 sm:L.length≤1000
 ne:∀s∈L,A5k s
 parts:∃a b,tv=.slice a L.length b∧L.length≤b∧(0<L.length→∃g,a=some ⟨g,0,none⟩∧g≠bp∧g<B∧∀(j:Nat) (s:BA),L[j]? =some s→w.cell? ⟨g,j*2,none⟩=some (.int .u8 (K7 s:Int))∧w.cell? ⟨g,j*2+1,none⟩=some (.string s))
section
variable {B bp:Nat}{tv:VL}{L:LB}{k:Int}{bad:Bool}{D:Int}{w w':WD}
theorem Dr.keep (h:Dr B bp tv L k bad D w)(c:∀b,b<B→w'.heap[b]? =w.heap[b]?)(t:B≤w'.heap.size):Dr B bp tv L k bad D w':=by obtain⟨l,o,e,r,q⟩:=h.parts;refine⟨h.row.of_block (c bp h.lt),h.lt,t,h.sm,h.ne,l,o,e,r,fun p=>?_⟩;obtain⟨g,f,n,d,m⟩:=q p;refine⟨g,f,n,d,fun j s i=>?_⟩;rw[y7 (w:=w) (a:=⟨g,j*2,none⟩) (c g d),y7 (w:=w) (a:=⟨g,j*2+1,none⟩) (c g d)];exact m j s i
theorem Dr.set (h:Dr B bp tv L k bad D w)(j:Nat)(v:VL){k':Int}{a:Bool}{d:Int}(e:∀i,i<4→(if i=j then v else drF tv k bad D i)=drF tv k' a d i):Dr B bp tv L k' a d (w.setCell ⟨bp,j,none⟩ v):=by obtain⟨p,m,o,x,u⟩:=h.parts;refine⟨(h.row.set j v).congr e,h.lt,by rw[z1];exact h.le,h.sm,h.ne,p,m,o,x,fun r=>?_⟩;obtain⟨g,f,c,n,q⟩:=u r;refine⟨g,f,c,n,fun t s l=>?_⟩;rw[y1 _ _ _ _ (by intro b;injection b with b;exact c b.symm),y1 _ _ _ _ (by intro b;injection b with b;exact c b.symm)];exact q t s l
theorem B2M {P:Nat→Prop}(c:P 0)(b:P 1)(d:P 2)(a:P 3):∀i,i<4→P i:=fun i hi=>by have:i=0∨i=1∨i=2∨i=3:=(by omega);rcases this with rfl|rfl|rfl|rfl<;>assumption
theorem Dr.setAt (h:Dr B bp tv L k bad D w)(k':Int):Dr B bp tv L k' bad D (w.setCell ⟨bp,1,none⟩ (.int .i64 k')):=h.set 1 _ (B2M rfl rfl rfl rfl)
theorem Dr.setBad (h:Dr B bp tv L k bad D w)(b:Bool):Dr B bp tv L k b D (w.setCell ⟨bp,2,none⟩ (.bool b)):=h.set 2 _ (B2M rfl rfl rfl rfl)
theorem Dr.setDeep (h:Dr B bp tv L k bad D w)(a:Int):Dr B bp tv L k bad a (w.setCell ⟨bp,3,none⟩ (.int .i64 a)):=h.set 3 _ (B2M rfl rfl rfl rfl)
end
def Du (B bp:Nat)(tv:VL)(L:LB)(st:Option (Nat×Int))(w:WD):Prop:=match st with
 |some p=>Dr B bp tv L (p.1:Int) false p.2 w∧p.1≤L.length
 |none=>∃k D,Dr B bp tv L k true D w
def lkS (L:LB)(st:Option (Nat×Int)):BA:=match st with
 |some p=>A0 L p.1
 |none=>⟨#[]⟩
section
variable {B bp:Nat}{tv:VL}{L:LB}{st:Option (Nat×Int)}{w w':WD}
theorem Du.dr (h:Du B bp tv L st w):∃k bad D,Dr B bp tv L k bad D w∧∀p,st=some p→k=p.1∧bad=false∧D=p.2∧p.1≤L.length:=by
 cases st with
 |none=>obtain⟨k,D,h⟩:=h;exact⟨k,_,D,h,fun p e=>by cases e⟩
 |some p=>exact⟨_,_,_,h.1,fun q e=>by injection e with e;subst e;exact⟨rfl,rfl,rfl,h.2⟩⟩
theorem Du.blt (h:Du B bp tv L st w):bp<B:=by obtain⟨k,b,D,h,_⟩:=h.dr;exact h.lt
theorem Du.le (h:Du B bp tv L st w):B≤w.heap.size:=by obtain⟨k,b,D,h,_⟩:=h.dr;exact h.le
theorem Du.sm (h:Du B bp tv L st w):L.length≤1000:=by obtain⟨k,b,D,h,_⟩:=h.dr;exact h.sm
theorem Du.kle {p:Nat×Int}(h:Du B bp tv L (some p) w):p.1≤L.length:=h.2
theorem Du.keep (h:Du B bp tv L st w)(a:∀b,b<B→w'.heap[b]? =w.heap[b]?)(c:B≤w'.heap.size):Du B bp tv L st w':=by
 cases st with
 |none=>obtain⟨k,D,h⟩:=h;exact⟨k,D,h.keep a c⟩
 |some p=>exact⟨h.1.keep a c,h.2⟩
theorem Du.below (h:Du B bp tv L st w)(a:Below w.heap.size w w'):Du B bp tv L st w':=h.keep (fun b c=>a.block b (Nat.lt_of_lt_of_le c h.le)) (y9 h.le a.size)
theorem Du.alloc (h:Du B bp tv L st w)(o:Obj):Du B bp tv L st (w.alloc o):=h.below ((Below.refl _ w).alloc (z2 _) o)
theorem Du.setNew (h:Du B bp tv L st w){g:Nat}(a:B≤g)(i:Nat)(v:VL):Du B bp tv L st (w.setCell ⟨g,i,none⟩ v):=h.keep (fun b c=>y8 _ _ _ _ (show b≠g by omega)) (by rw[z1];exact h.le)
theorem Du.grow (h:Du B bp tv L st w){lv:VL}(f:w.heap.size≤w'.heap.size)(c:∀b,b<w.heap.size→lv.ownBlock≠some b→w'.heap[b]? =w.heap[b]?)(a:∀g,lv.ownBlock=some g→B≤g):Du B bp tv L st w':=
 h.keep (fun b d=>c b (Nat.lt_of_lt_of_le d h.le) (fun e=>by have:=a b e;omega)) (y9 h.le f)
end
theorem A9e {w:WD}{a b:VL}{T:Nat}(u v:VL)(n:Nat):((((w.alloc (.cells #[a,b] T)).drewN n).setCell ⟨w.heap.size,0,none⟩ u).setCell ⟨w.heap.size,1,none⟩ v).cell? ⟨w.heap.size,0,none⟩=some u∧((((w.alloc (.cells #[a,b] T)).drewN n).setCell ⟨w.heap.size,0,none⟩ u).setCell ⟨w.heap.size,1,none⟩ v).cell? ⟨w.heap.size,1,none⟩=some v∧Below w.heap.size w ((((w.alloc (.cells #[a,b] T)).drewN n).setCell ⟨w.heap.size,0,none⟩ u).setCell ⟨w.heap.size,1,none⟩ v):=by have d:((w.alloc (.cells #[a,b] T)).drewN n).heap[w.heap.size]? =some (.cells #[a,b] T):=A2;have c:=A4 (i:=1) (A4 (i:=0) d u) v;exact⟨A1 (i:=0) c rfl,A1 (i:=1) c rfl,((below_drewN ((Below.refl _ w).alloc (z2 _) _) n).setCell (p:=⟨w.heap.size,0,none⟩) (z2 _) u).setCell (p:=⟨w.heap.size,1,none⟩) (z2 _) v⟩
theorem A2U {L:LB}(a:∀s∈L,A5k s){k:Nat}(c:k<L.length):A5k (A0 L k):=by obtain⟨s,b⟩:∃s,L[k]? =some s:=⟨_,z5 c⟩;rw[A18 L k s b];exact a s (z7 b)
section
variable {B bp:Nat}{tv:VL}{L:LB}{st:Option (Nat×Int)}{w w':WD}
theorem A1z (h:Du B bp tv L st w)(R:RP)(c:∀w',Du B bp tv L st w'→Below w.heap.size w w'→R (.returned (A2x (lkS L st))) w'):Calls Tryz.prog 82 #[.pointer (some ⟨bp,0,none⟩)] w R:=by
 obtain⟨k,bad,D,l,n⟩:=h.dr;have P:w.cell? ⟨bp,0,none⟩=some tv:=l.row.cell (i:=0) (by omega);have Q:w.cell? ⟨bp,1,none⟩=some (.int .i64 k):=l.row.cell (i:=1) (by omega);have H:w.cell? ⟨bp,2,none⟩=some (.bool bad):=l.row.cell (i:=2) (by omega);have V:=l.row.lt;have F:=l.sm;obtain⟨Y,X,rfl,hc,m⟩:=l.parts;have A:A2x ⟨#[]⟩=.agg #[.int .u8 0,.string ⟨#[]⟩]:=rfl;have d:(lkS L st=⟨#[]⟩∧(decide ((L.length:Int)≤k)=true∨(decide ((L.length:Int)≤k)=false∧bad=true)))∨(∃p,st=some p∧p.1<L.length∧k=(p.1:Int)∧bad=false∧lkS L st=A0 L p.1):=by
  cases u:st with
  |none=>
   left;refine⟨rfl,?_⟩;have M:bad=true:=(by subst u;obtain⟨Z,S,G⟩:=h;have o:=G.row.cell (i:=2) (by omega);rw[H] at o;injection o with o;injection o);by_cases f:(L.length:Int)≤k
   ·exact .inl (by simpa using f)
   ·exact .inr ⟨by simpa using f,M⟩
  |some p=>
   obtain⟨z,C,O,e4⟩:=n p u;by_cases f:p.1<L.length
   ·exact .inr ⟨p,rfl,f,z,C,rfl⟩
   ·left;refine⟨G7 f,.inl ?_⟩;rw[z];simp;omega
 replace m:=hd m;replace h:=hd h;replace c:=hd c;clear n l;rcases d with ⟨e,r⟩|⟨p,u,f,rfl,rfl,e⟩
 ·rw[e,A] at c;clear m e;rcases r with r|⟨r,rfl⟩;all_goals
   go_enter Tryz.func82,Tryz.ntmps82
   go_wp2_with (fail)
   go_quiet (fail)
   go_wp2
   obtain⟨q,x,hB⟩:=A9e (w:=w) (a:=.int .u8 0) (b:=.string ⟨#[]⟩) (T:=176) (.int .u8 0) (.string ⟨#[]⟩) nq
   exact bodyPost_ret (v:=.agg #[.int .u8 0,.string ⟨#[]⟩]) (by simp[results,Tryz.results82,go_sem,q,x]) rfl (c.out _ (h.out.below hB) hB)
 ·rw[e] at c;obtain⟨s,j⟩:∃s,L[p.1]? =some s:=⟨_,z5 f⟩;rw[A18 L p.1 s j] at c;obtain⟨g,rfl,I,E,y⟩:=m.out (by omega);obtain⟨g1,U⟩:=y p.1 s j;have t:decide ((L.length:Int)≤(p.1:Int))=false:=(by simp;omega);have J:=h.out.le;have N:(0:Int)≤(p.1:Int)∧(p.1:Int)<(L.length:Int):=(by omega);unfold A2x at c;clear j y m;go_enter Tryz.func82,Tryz.ntmps82;go_wp2_with (fail);go_quiet (fail);go_wp2_with (fail);have K:g<w.heap.size:=(by omega);go_region;go_wp2;obtain⟨q,x,hB⟩:=A9e (w:=w) (a:=.int .u8 0) (b:=.string ⟨#[]⟩) (T:=176) (.int .u8 (K7 s:Int)) (.string s) (nq+1);exact bodyPost_ret (v:=.agg #[.int .u8 (K7 s:Int),.string s]) (by simp[results,Tryz.results82,go_sem,q,x]) rfl (c.out _ (h.out.below hB) hB)
end
theorem B7X (s:BA):K7 s<256:=by
 unfold K7;split
 ·omega
 ·split
  ·omega
  ·split
   ·omega
   ·split<;>omega
def yS (L:LB)(s:BA)(p:Nat×Int):Option (Nat×Int):=if B6 (A0 L p.1) s then some (p.1+1,p.2) else none
theorem U3 {s t:BA}(h:B6 s t=true):s=t:=A0u h
section
variable {B bp:Nat}{tv:VL}{L:LB}{st:Option (Nat×Int)}{w w':WD}
theorem A8N (h:Du B bp tv L st w)(b:(lkS L st).size≠0):∃p,st=some p∧p.1<L.length∧lkS L st=A0 L p.1:=by
 cases st with
 |none=>exact absurd rfl b
 |some p=>
  refine⟨p,rfl,?_,rfl⟩;by_cases a:p.1<L.length
  ·exact a
  ·exact absurd (show (A0 L p.1).size=0 by rw[G7 a];rfl) b
theorem Du.next {p:Nat×Int}(h:Du B bp tv L (some p) w)(a:p.1<L.length):Du B bp tv L (some (p.1+1,p.2)) (w.setCell ⟨bp,1,none⟩ (.int .i64 ((p.1:Int)+1))):=⟨by have:=h.1.setAt ((p.1:Int)+1);simpa using this,a⟩
theorem Du.bad (h:Du B bp tv L st w):Du B bp tv L none (w.setCell ⟨bp,2,none⟩ (.bool true)):=by obtain⟨k,b,D,h,_⟩:=h.dr;exact⟨k,D,h.setBad true⟩
theorem dIs (h:Du B bp tv L st w){s:BA}(F:s.size≠0)(m:K7 s=119∨K7 s=115)(R:RP)(g:∀p,st=some p→B6 (A0 L p.1) s=true→∀w',Du B bp tv L (some (p.1+1,p.2)) w'→A8 bp w w'→R (.returned (.bool true)) w')(o:(∀p,st=some p→B6 (A0 L p.1) s=false)→∀w',Du B bp tv L st w'→A8 bp w w'→R (.returned (.bool false)) w'):Calls Tryz.prog 85 #[.pointer (some ⟨bp,0,none⟩),.string s] w R:=by
 replace g:=hd g;replace o:=hd o;go_enter Tryz.func85,Tryz.ntmps85;go_wp2_with (fail);refine A1z h _ ?_;intro w1 d j;unfold A2x;have z:=h.blt;have E:=d.le;by_cases k:B6 (lkS L st) s=true
 ·have e:=U3 k;obtain⟨p,C,q,u⟩:=A8N h (by rw[e];exact F);rw[e];subst C;have A:=h.sm;have y:B6 (A0 L p.1) s=true:=(by rw[←u];exact k);have x:w1.cell? ⟨bp,1,none⟩=some (.int .i64 (p.1:Int)):=d.1.row.cell (i:=1) (by omega);have G:=d.1.row.frozen 1;have I:=d.1.row.lt;have M:IntKind.i64.wrap ((p.1:Int)+1)=(p.1:Int)+1:=z4 _ (by omega);have v:=hd ((d.next q).alloc (.cells #[.int .u8 (K7 s:Int),.string s] 176));have l:=hd (((A8.of_below (b:=bp) j).setCell (a:=⟨bp,1,none⟩) (.inl rfl) (.int .i64 ((p.1:Int)+1))).alloc (.cells #[.int .u8 (K7 s:Int),.string s] 176));replace d:=hd d;replace j:=hd j;clear h k e u;rcases m with m|m;all_goals
   rw[m]
   rw[m] at l v
   go_wp2
   exact A6 (g.out p rfl y _ v.out l.out) rfl
 ·have f:B6 (lkS L st) s=false:=(by simpa using k);have n:∀p,st=some p→B6 (A0 L p.1) s=false:=fun p e=>by subst e;exact f
  have K:((lkS L st).toList==s.toList)=false:=f;have l:=hd ((A8.of_below (b:=bp) j).alloc (.cells #[.int .u8 (K7 (lkS L st):Int),.string (lkS L st)] 176));have r:=hd (d.alloc (.cells #[.int .u8 (K7 (lkS L st):Int),.string (lkS L st)] 176));have N:=B7X (lkS L st);replace n:=hd n;replace k:=hd k;replace f:=hd f;replace d:=hd d;replace j:=hd j;generalize K7 (lkS L st)=c at*;generalize lkS L st=t at*;clear h;by_cases x:c=119
  ·subst x;go_wp2;exact A6 (o.out n.out _ r.out l.out) rfl
  ·have J:((c:Int) !=119)=true:=(by simp;omega);by_cases D:c=115
   ·subst D;go_wp2;exact A6 (o.out n.out _ r.out l.out) rfl
   ·have H:((c:Int) !=115)=true:=(by simp;omega);go_wp2;exact A6 (o.out n.out _ r.out l.out) rfl
theorem P3 (h:Du B bp tv L st w){s:BA}(m:s.size≠0)(l:K7 s=119∨K7 s=115)(R:RP)(b:∀w',Du B bp tv L (st.bind (yS L s)) w'→A8 bp w w'→R (.returned (.tuple #[])) w'):Calls Tryz.prog 84 #[.pointer (some ⟨bp,0,none⟩),.string s] w R:=by
 replace b:=hd b;go_enter Tryz.func84,Tryz.ntmps84;go_wp2_with (fail);refine dIs h m l _ ?_ ?_
 ·intro p j n w1 d e;have f:st.bind (yS L s)=some (p.1+1,p.2):=(by rw[j];simp only[z0];unfold yS;rw[if_pos n]);rw[f] at b;replace d:=hd d;replace e:=hd e;go_wp2;go_end0;exact b.out _ d.out e.out
 ·intro g w1 d e;have f:st.bind (yS L s)=none:=by
   cases st with
   |none=>rfl
   |some p=>simp only[z0];unfold yS;rw[g p rfl];rfl
  rw[f] at b;obtain⟨k,bad,D,c,_⟩:=d.dr;have r:w1.cell? ⟨bp,2,none⟩=some (.bool bad):=c.row.cell (i:=2) (by omega);have t:=c.row.frozen 2;have q:=c.row.lt;have o:=hd d.bad;replace d:=hd d;replace e:=hd e;replace c:=hd c;replace g:=hd g;replace f:=hd f;go_wp2;go_end0;exact b.out _ o.out (e.out.setCell (a:=⟨bp,2,none⟩) (.inl rfl) _)
end
end
section
def yK (L:LB)(c:Nat)(p:Nat×Int):Option (Nat×Int):=if K7 (A0 L p.1)=c then some (p.1+1,p.2) else none
def K3 (L:LB)(c:Nat)(st:Option (Nat×Int)):BA:=match st.bind (yK L c) with
 |some _=>lkS L st
 |none=>⟨#[]⟩
section
variable {B bp:Nat}{tv:VL}{L:LB}{st:Option (Nat×Int)}{w w':WD}
theorem A7w (h:Du B bp tv L st w){c:Nat}(F:c≠0)(R:RP)(f:∀w',Du B bp tv L (st.bind (yK L c)) w'→A8 bp w w'→R (.returned (.string (K3 L c st))) w'):Calls Tryz.prog 83 #[.pointer (some ⟨bp,0,none⟩),.int .u8 (c:Int)] w R:=by
 replace f:=hd f;go_enter Tryz.func83,Tryz.ntmps83;go_wp2_with (fail);refine A1z h _ ?_;intro w1 j m;unfold A2x;have y:=h.blt;have E:=j.le;have z:=h.sm;by_cases n:K7 (lkS L st)=c
 ·have q:(lkS L st).size≠0:=fun e=>F (by rw[←n];unfold K7;rw[if_pos e]);obtain⟨p,A,t,x⟩:=A8N h q;subst A;have l:(some p:Option (Nat×Int)).bind (yK L c)=some (p.1+1,p.2):=(by simp only[z0];unfold yK;rw[if_pos (by rw[←x];exact n)]);have o:K3 L c (some p)=lkS L (some p):=(by unfold K3;rw[l]);rw[l,o] at f;have H:w1.cell? ⟨bp,1,none⟩=some (.int .i64 (p.1:Int)):=j.1.row.cell (i:=1) (by omega);have G:=j.1.row.frozen 1;have C:=j.1.row.lt;have K:IntKind.i64.wrap ((p.1:Int)+1)=(p.1:Int)+1:=z4 _ (by omega);have r:=hd ((j.next t).alloc (.cells #[.int .u8 (c:Int),.string (lkS L (some p))] 176));have v:=hd (((A8.of_below (b:=bp) m).setCell (a:=⟨bp,1,none⟩) (.inl rfl) (.int .i64 ((p.1:Int)+1))).alloc (.cells #[.int .u8 (c:Int),.string (lkS L (some p))] 176));rw[n];replace j:=hd j;replace m:=hd m;clear h n l o x q;generalize lkS L (some p)=s at*;go_wp2;exact A6 (f.out _ r.out v.out) rfl
 ·have l:st.bind (yK L c)=none:=by
   cases st with
   |none=>rfl
   |some p=>simp only[z0];unfold yK;exact if_neg n
  have o:K3 L c st=⟨#[]⟩:=(by unfold K3;rw[l]);rw[l,o] at f;obtain⟨k,u,D,g,_⟩:=j.dr;have I:w1.cell? ⟨bp,2,none⟩=some (.bool u):=g.row.cell (i:=2) (by omega);have M:=g.row.frozen 2;have C:=g.row.lt;have r:=hd (j.bad.alloc (.cells #[.int .u8 (K7 (lkS L st):Int),.string (lkS L st)] 176));have v:=hd (((A8.of_below (b:=bp) m).setCell (a:=⟨bp,2,none⟩) (.inl rfl) (.bool true)).alloc (.cells #[.int .u8 (K7 (lkS L st):Int),.string (lkS L st)] 176));have J:((K7 (lkS L st):Int)==(c:Int))=false:=(by simp;omega);replace j:=hd j;replace m:=hd m;replace g:=hd g;clear h n l o;generalize K7 (lkS L st)=d at*;generalize lkS L st=s at*;go_wp2;exact A6 (f.out _ r.out v.out) rfl
theorem A3A (h:Du B bp tv L st w)(d:Int)(R:RP)(b:∀w',Du B bp tv L (st.map (fun p=>(p.1,max p.2 d))) w'→A8 bp w w'→R (.returned (.tuple #[])) w'):Calls Tryz.prog 204 #[.pointer (some ⟨bp,0,none⟩),.int .i64 d] w R:=by
 obtain⟨k,q,D,e,c⟩:=h.dr;have s:w.cell? ⟨bp,3,none⟩=some (.int .i64 D):=e.row.cell (i:=3) (by omega);have t:=e.row.frozen 3;have r:=e.row.lt;replace b:=hd b;by_cases g:D<d
 ·have n:decide (D<d)=true:=(by simpa using g);have f:Du B bp tv L (st.map (fun p=>(p.1,max p.2 d))) (w.setCell ⟨bp,3,none⟩ (.int .i64 d)):=by
   cases st with
   |none=>obtain⟨m,u,o⟩:=h;exact⟨m,d,o.setDeep d⟩
   |some p=>
    obtain⟨_,_,l,j⟩:=c p rfl;refine⟨?_,j⟩;have:max p.2 d=d:=(by omega);show Dr B bp tv L (p.1:Int) false (max p.2 d) _;rw[this];exact h.1.setDeep d
  replace f:=hd f;clear h c;replace e:=hd e;go_enter Tryz.func204,Tryz.ntmps204;go_wp2;go_end0;exact b.out _ f.out ((A8.refl _ _).setCell (a:=⟨bp,3,none⟩) (.inl rfl) _)
 ·have n:decide (D<d)=false:=(by simpa using g);have f:Du B bp tv L (st.map (fun p=>(p.1,max p.2 d))) w:=by
   cases st with
   |none=>exact h
   |some p=>
    obtain⟨_,_,l,j⟩:=c p rfl;have:max p.2 d=p.2:=(by omega);show Dr B bp tv L (p.1:Int) false (max p.2 d) _∧_;rw[this];exact h
  replace f:=hd f;clear h c;replace e:=hd e;go_enter Tryz.func204,Tryz.ntmps204;go_wp2;go_end0;exact b.out _ f.out (A8.refl _ _)
end
theorem B0u (l:List UInt8){i:Nat}{b:UInt8}(h:l[i]? =some b):A0F 0 (l.take (i+1))=min (10*A0F 0 (l.take i)+(b.toNat-48:Nat)) 1099511627776:=by have e:l.take (i+1)=l.take i++[b]:=(by rw[List.take_add_one,h];rfl);rw[e];simp only[A0F,List.foldl_append,y5,List.foldl_nil]
theorem A2O (l:List UInt8):0≤A0F 0 l∧A0F 0 l≤1099511627776:=by have:=B0h l 0;have e:min ((0:Nat):Int) 1099511627776=0:=(by omega);rw[e] at this;rw[this];omega
section
variable {B bp:Nat}{tv:VL}{L:LB}{st:Option (Nat×Int)}{w w':WD}
theorem A9a (h:Du B bp tv L st w):(K3 L 100 st).size≤1000∧DgL (K3 L 100 st).data.toList:=by
 unfold K3;cases e:st.bind (yK L 100) with
 |none=>exact⟨x0 _,fun c i=>by cases i⟩
 |some q=>
  cases st with
  |none=>cases e
  |some p=>
   simp only[z0] at e;unfold yK at e;by_cases a:K7 (A0 L p.1)=100
   ·have d:p.1<L.length:=by
     by_cases c:p.1<L.length
     ·exact c
     ·rw[G7 c] at a;exact absurd a (by unfold K7;rw[if_pos (by rfl)];omega)
    have b:=A2U h.1.ne d;refine⟨b.2.1,b.2.2 ?_⟩;unfold K7 at a;rw[if_neg b.1] at a;by_cases f:O7 (A0 L p.1)=true
    ·rw[if_pos f] at a;omega
    ·rw[if_neg f] at a;by_cases g:Y8 (A0 L p.1)=true
     ·exact g
     ·rw[if_neg g] at a;split at a<;>omega
   ·rw[if_neg a] at e;cases e
theorem A56 (h:Du B bp tv L st w)(R:RP)(d:∀w',Du B bp tv L (st.bind (yK L 100)) w'→A8 bp w w'→R (.returned (.int .i64 (A0F 0 (K3 L 100 st).data.toList))) w'):Calls Tryz.prog 86 #[.pointer (some ⟨bp,0,none⟩)] w R:=by
 obtain⟨D,g⟩:=A9a h;replace d:=hd d;go_enter Tryz.func86,Tryz.ntmps86;go_wp2_with (fail);refine A7w (c:=100) h (by omega) _ ?_;intro w1 p o;generalize K3 L 100 st=s at*;replace p:=hd p;replace o:=hd o;go_wp2;go_loopw [4,5] (fun r l wr=>∃i:Nat,i≤s.size∧l=.int .i64 (i:Int)∧r=.int .i64 (A0F 0 (s.data.toList.take i))∧wr=w1) (fun _ l _=>s.size-(intOf l).toNat);case atStart=>exact⟨0,x0 _,rfl,rfl,rfl⟩
 case round=>
  obtain⟨i,hi,rfl,rfl,rfl⟩:=hrel;by_cases f:i<s.size
  ·have q:decide ((i:Int)<(s.size:Int))=true:=(by simp;omega);have z:=J4 s i f;have u:(0:Int)≤(i:Int)∧(i:Int)<(s.size:Int):=(by omega);obtain⟨b,a,m⟩:=A1s s i f;have k:=g b (z7 a);have j:=B0u s.data.toList a;obtain⟨A,t⟩:=A2O (s.data.toList.take i);rw[←m] at j k;generalize A0F 0 (s.data.toList.take i)=n at*;have y:IntKind.i64.wrap (10*n)=10*n:=z4 _ (by omega);have C:IntKind.u8.wrap ((bt s i:Int)-48)=((bt s i-48:Nat):Int):=(by have:(bt s i:Int)-48=((bt s i-48:Nat):Int):=(by omega);rw[this];exact IntWalk.u8_in _ (by omega));have x:IntKind.i64.wrap ((bt s i-48:Nat):Int)=((bt s i-48:Nat):Int):=z4 _ (by omega);have v:IntKind.i64.wrap (10*n+((bt s i-48:Nat):Int))=10*n+((bt s i-48:Nat):Int):=z4 _ (by omega);replace j:=hd j;replace a:=hd a;replace g:=hd g;go_wp2;exact⟨⟨i+1,by omega,by go_num,by rw[j.out];exact congrArg _ (by first|omega|(split<;>omega)),by first|rfl|trivial⟩,by simp[intOf];omega⟩
  ·have q:decide ((i:Int)<(s.size:Int))=false:=(by simp;omega);have e:s.data.toList.take i=s.data.toList:=y4 (by simp;exact Nat.le_of_not_lt f);rw[e];go_wp2;exact A6 (d.out _ p.out o.out) rfl
end
end
section
def deF (d:Nat)(n:Int)(c:Bool)(nm op:BA)(a b:Option Nat)(t:Int)(j:Nat):VL:=if j=0 then .int .u8 (d:Int) else if j=1 then .int .i64 n else if j=2 then .bool c else if j=3 then .string nm else if j=4 then .string op else if j=5 then .pointer (a.map (fun b=>⟨b,0,none⟩)) else if j=6 then .pointer (b.map (fun b=>⟨b,0,none⟩)) else .int .i64 t
def A2m (n:Int):Bool:= !(decide (-2147483648≤n)&&decide (n≤2147483647))
def DN (TT:Ex→Int→Prop)(e:Ex)(w:WD)(b c:Nat)(n:Int)(a:Bool)(nm op:BA)(x y:Option Nat):Prop:=∃t,TT e t∧w.rowIs b 194 8 (deF c n a nm op x y t)
def DE (TT:Ex→Int→Prop):Ex→Nat→Nat→WD→Nat→Prop
 |.lit n,lo,hi,w,b=>lo≤b∧b<hi∧DN TT (.lit n) w b 108 (c40 n) (A2m n) ⟨#[]⟩ ⟨#[]⟩ none none
 |.tru v,lo,hi,w,b=>lo≤b∧b<hi∧DN TT (.tru v) w b 98 (if v then 1 else 0) false ⟨#[]⟩ ⟨#[]⟩ none none
 |.plc s,lo,hi,w,b=>lo≤b∧b<hi∧DN TT (.plc s) w b 110 0 false s ⟨#[]⟩ none none
 |.idx s i,lo,hi,w,b=>lo≤b∧b<hi∧∃d,DN TT (.idx s i) w b 120 0 false s ⟨#[]⟩ (some d) none∧DE TT i (b+1) hi w d
 |.bin o l r,lo,hi,w,b=>lo≤b∧b<hi∧∃bl g,DN TT (.bin o l r) w b 111 0 false ⟨#[]⟩ (P6 o) (some bl) (some g)∧DE TT l lo b w bl∧DE TT r (b+1) hi w g
 |.neg e,lo,hi,w,b=>lo≤b∧b<hi∧∃c,DN TT (.neg e) w b 33 0 false ⟨#[]⟩ ⟨#[]⟩ (some c) none∧DE TT e lo b w c
 |.sho e,lo,hi,w,b=>lo≤b∧b<hi∧∃c,DN TT (.sho e) w b 115 0 false ⟨#[]⟩ ⟨#[]⟩ (some c) none∧DE TT e lo b w c
 |.dly t a s,lo,hi,w,b=>lo≤b∧b<hi∧∃ba f m,DN TT (.dly t a s) w b 116 0 false t ⟨#[]⟩ (some ba) (some f)∧b+1≤m∧m≤hi∧DE TT a (b+1) m w ba∧DE TT s m hi w f
section
variable {TT:Ex→Int→Prop}{w w':WD}
theorem DN.keep {e:Ex}{b c:Nat}{n:Int}{a:Bool}{nm op:BA}{x y:Option Nat}(h:DN TT e w b c n a nm op x y)(k:w'.heap[b]? =w.heap[b]?):DN TT e w' b c n a nm op x y:=by obtain⟨t,d,f⟩:=h;exact⟨t,d,f.of_block k⟩
theorem DE.keep:∀{e:Ex}{lo hi b:Nat},DE TT e lo hi w b→(∀c,lo≤c→c<hi→w'.heap[c]? =w.heap[c]?)→DE TT e lo hi w' b
 |.lit _,_,_,_,⟨h1,h2,h⟩,k=>⟨h1,h2,h.keep (k _ h1 h2)⟩
 |.tru _,_,_,_,⟨h1,h2,h⟩,k=>⟨h1,h2,h.keep (k _ h1 h2)⟩
 |.plc _,_,_,_,⟨h1,h2,h⟩,k=>⟨h1,h2,h.keep (k _ h1 h2)⟩
 |.idx _ _,_,_,_,⟨h1,h2,bi,h,g⟩,k=>⟨h1,h2,bi,h.keep (k _ h1 h2),g.keep (fun c a d=>k c (by omega) d)⟩
 |.bin _ _ _,_,_,_,⟨h1,h2,bl,br,h,g1,g2⟩,k=>⟨h1,h2,bl,br,h.keep (k _ h1 h2),g1.keep (fun c a d=>k c a (by omega)),g2.keep (fun c a d=>k c (by omega) d)⟩
 |.neg _,_,_,_,⟨h1,h2,be,h,g⟩,k=>⟨h1,h2,be,h.keep (k _ h1 h2),g.keep (fun c a d=>k c a (by omega))⟩
 |.sho _,_,_,_,⟨h1,h2,be,h,g⟩,k=>⟨h1,h2,be,h.keep (k _ h1 h2),g.keep (fun c a d=>k c a (by omega))⟩
 |.dly _ _ _,_,_,_,⟨h1,h2,ba,bs,m,h,m1,m2,g1,g2⟩,k=>⟨h1,h2,ba,bs,m,h.keep (k _ h1 h2),m1,m2,g1.keep (fun c a d=>k c (by omega) (by omega)),g2.keep (fun c a d=>k c (by omega) d)⟩
theorem DE.wide:∀{e:Ex}{lo hi lo' hi' b:Nat},DE TT e lo hi w b→lo'≤lo→hi≤hi'→DE TT e lo' hi' w b
 |.lit _,_,_,_,_,_,⟨h1,h2,h⟩,p,q=>⟨by omega,by omega,h⟩
 |.tru _,_,_,_,_,_,⟨h1,h2,h⟩,p,q=>⟨by omega,by omega,h⟩
 |.plc _,_,_,_,_,_,⟨h1,h2,h⟩,p,q=>⟨by omega,by omega,h⟩
 |.idx _ _,_,_,_,_,_,⟨h1,h2,bi,h,g⟩,p,q=>⟨by omega,by omega,bi,h,g.wide (z2 _) q⟩
 |.bin _ _ _,_,_,_,_,_,⟨h1,h2,bl,br,h,g1,g2⟩,p,q=>⟨by omega,by omega,bl,br,h,g1.wide p (z2 _),g2.wide (z2 _) q⟩
 |.neg _,_,_,_,_,_,⟨h1,h2,be,h,g⟩,p,q=>⟨by omega,by omega,be,h,g.wide p (z2 _)⟩
 |.sho _,_,_,_,_,_,⟨h1,h2,be,h,g⟩,p,q=>⟨by omega,by omega,be,h,g.wide p (z2 _)⟩
 |.dly _ _ _,_,_,_,_,_,⟨h1,h2,ba,bs,m,h,m1,m2,g1,g2⟩,p,q=>⟨by omega,by omega,ba,bs,m,h,m1,by omega,g1,g2.wide (z2 _) q⟩
end
def TA (_:Ex)(_:Int):Prop:=True
theorem X6 {P:Nat→Prop}(g:P 0)(f:P 1)(h:P 2)(e:P 3)(a:P 4)(b:P 5)(d:P 6)(c:P 7):∀i,i<8→P i:=fun i hi=>by have:i=0∨i=1∨i=2∨i=3∨i=4∨i=5∨i=6∨i=7:=(by omega);rcases this with rfl|rfl|rfl|rfl|rfl|rfl|rfl|rfl<;>assumption
theorem B3q {s:BA}(h:O7 s=true):s.size≠0∧I3 (bt s 0)=true:=by unfold O7 at h;simp only[Bool.and_eq_true,decide_eq_true_eq] at h;exact⟨by omega,h.1.2⟩
theorem B5i {c:Nat}(h:I3 c=true):I4 c=false:=by unfold I3 at h;unfold I4;simp only[Bool.or_eq_true,Bool.and_eq_true,decide_eq_true_eq,y6,decide_eq_false_iff_not] at h ⊢;omega
theorem B5z {s:BA}(h:Y8 s=true):O7 s=false:=by
 cases e:O7 s with
 |false=>rfl
 |true=>
  have:=B5i (B3q e).2;rw[(A2g h).2] at this;cases this
theorem A46 {s:BA}:K7 s=100↔Y8 s=true:=by
 unfold K7;constructor
 ·intro h;by_cases c:s.size=0
  ·rw[if_pos c] at h;omega
  ·rw[if_neg c] at h;by_cases a:O7 s=true
   ·rw[if_pos a] at h;omega
   ·rw[if_neg a] at h;by_cases b:Y8 s=true
    ·exact b
    ·rw[if_neg b] at h;split at h<;>omega
 ·intro h;rw[if_neg (A2g h).1,if_neg (by rw[B5z h];decide),if_pos h]
theorem A65 {s:BA}:K7 s=110↔O7 s=true:=by
 unfold K7;constructor
 ·intro h;by_cases b:s.size=0
  ·rw[if_pos b] at h;omega
  ·rw[if_neg b] at h;by_cases a:O7 s=true
   ·exact a
   ·rw[if_neg a] at h;split at h
    ·omega
    ·split at h<;>omega
 ·intro h;rw[if_neg (B3q h).1,if_pos h]
theorem app_nil (t:BA):(⟨#[]⟩++t:BA).data.toList=t.data.toList:=by simp[ByteArray.data_append]
theorem B6c (t:BA):(wMI++t:BA).data.toList=45::t.data.toList:=by simp[ByteArray.data_append,wMI]
theorem A9g {t:BA}(h:Y8 t=true):t.data.toList≠[]:=fun e=>(A2g h).1 (by have:t.data.size=0:=(by rw[←Array.length_toList,e];rfl);exact this)
theorem B5o (l:List UInt8):A0F 0 l=min (A2l 0 l:Int) 1099511627776:=by have:=B0h l 0;rwa [show min ((0:Nat):Int) 1099511627776=0 by omega] at this
theorem A6C {t:BA}(h:Y8 t=true)(hd:DgL t.data.toList):A0F 0 t.data.toList=c40 (Y1 (⟨#[]⟩++t)):=by have e:Y1 (⟨#[]⟩++t)=min (A2l 0 t.data.toList:Int) 9223372036854775807:=(by unfold Y1;rw[app_nil];exact B44 hd (A9g h));rw[e,B5o];unfold c40;omega
theorem B4P {t:BA}(h:Y8 t=true)(hd:DgL t.data.toList): -A0F 0 t.data.toList=c40 (Y1 (wMI++t)):=by have e:Y1 (wMI++t)= -(min (A2l 0 t.data.toList:Int) 9223372036854775808):=(by unfold Y1;rw[B6c];exact B4Y hd (A9g h));rw[e,B5o];unfold c40;omega
def yL (L:LB)(p:Nat×Int):Option (Nat×Int):=(D2 L p.1).map (fun q=>(q.2,p.2))
theorem B6B (m:Int):(A0R 2 (c40 m)==c40 m)= !A2m m:=by
 have e:A0R 2 (c40 m)=wrap32 (c40 m):=rfl;rw[e];by_cases h: -2147483648≤m∧m≤2147483647
 ·have b:c40 m=m:=(by unfold c40;omega);have a:A2m m=false:=(by unfold A2m;simp[h.1,h.2]);rw[b,a,IntWalk.wrap32_in _ h];simp
 ·have a:A2m m=true:=(by unfold A2m;simp only[Bool.not_eq_true',y6,decide_eq_false_iff_not];omega);rw[a];simp only[Bool.not_true,beq_eq_false_iff_ne];intro c;have:=A8i (c40 m);unfold Y2 at this;unfold c40 at this c;omega
theorem B0f {W:WD}{m v:Int}(e:v=c40 m):DN TA (.lit m) (W.alloc (Obj.cells #[.int .u8 108,.int .i64 v,.bool (A0R 2 v !=v),.string ⟨#[]⟩,.string ⟨#[]⟩,.pointer none,.pointer none,.int .i64 0] 194)) W.heap.size 108 (c40 m) (A2m m) ⟨#[]⟩ ⟨#[]⟩ none none:=by subst e;have a:(A0R 2 (c40 m) !=c40 m)=A2m m:=(by rw[bne,B6B,Bool.not_not]);rw[a];exact⟨0,trivial,R5 A2 rfl (X6 rfl rfl rfl rfl rfl rfl rfl rfl)⟩
section
variable {B bp:Nat}{tv:VL}{L:LB}{st:Option (Nat×Int)}{w w':WD}
theorem A7n (h:Du B bp tv L st w){k:Nat}(b:Y8 (A0 L k)=true):DgL (A0 L k).data.toList:=by
 obtain⟨_,_,_,d,_⟩:=h.dr;have a:k<L.length:=by
  by_cases c:k<L.length
  ·exact c
  ·rw[G7 c] at b;cases b
 exact (A2U d.ne a).2.2 b
theorem B3B (h:Du B bp tv L st w)(R:RP)(g:∀w' b,Du B bp tv L (st.bind (yL L)) w'→A8 bp w w'→w.heap.size≤b→b<w'.heap.size→(∀p n k',st=some p→D2 L p.1=some (n,k')→DE TA (.lit n) w.heap.size w'.heap.size w' b)→R (.returned (.pointer (some ⟨b,0,none⟩))) w'):Calls Tryz.prog 205 #[.pointer (some ⟨bp,0,none⟩)] w R:=by
 replace g:=hd g;have E:=h.blt;have D:=h.le;go_enter Tryz.func205,Tryz.ntmps205;go_wp2_with (fail);refine dIs (s:=wMI) h (by decide) (.inr (by kernel_rfl)) _ ?_ ?_
 ·intro p u y w1 o l;subst u;go_wp2_with (fail);refine A56 o _ ?_;intro t j r;obtain⟨A,C⟩:=A2O (K3 L 100 (some (p.1+1,p.2))).data.toList;have a:D2 L p.1=if Y8 (A0 L (p.1+1)) then some (Y1 (wMI++A0 L (p.1+1)),p.1+2) else none:=(by unfold D2;rw[if_pos (show ((A0 L p.1).toList==wMI.toList)=true from y)]);have f:(some p:Option (Nat×Int)).bind (yL L)=(some (p.1+1,p.2):Option (Nat×Int)).bind (yK L 100):=by
   simp only[z0];unfold yL yK;rw[a];by_cases c:Y8 (A0 L (p.1+1))=true
   ·rw[if_pos c,if_pos (A46.2 c)];rfl
   ·rw[if_neg c,if_neg (fun e=>c (A46.1 e))];rfl
  have d:∀n k',D2 L p.1=some (n,k')→ -A0F 0 (K3 L 100 (some (p.1+1,p.2))).data.toList=c40 n:=fun n k' e=>by rw[a] at e;obtain⟨c,e⟩:=D3.1 e;injection e with e;injection e with e _;have i:K3 L 100 (some (p.1+1,p.2))=A0 L (p.1+1):=(by unfold K3;simp only[z0];unfold yK;rw[if_pos (A46.2 c)];rfl);rw[i,←e];exact B4P c (A7n h c)
  rw[f] at g;generalize A0F 0 (K3 L 100 (some (p.1+1,p.2))).data.toList=n at*;have F:IntKind.i64.wrap (-n)= -n:=z4 _ (by omega);have k:=hd (l.step r);replace j:=hd j;replace d:=hd d;replace a:=hd a;replace f:=hd f;clear l r o;go_wp2_with (fail);refine S1 _ (-n) 2 (by omega) _ ?_;go_wp2;exact A6 (g.out _ t.heap.size (j.out.alloc _) (k.out.alloc _) k.out.size (by simp) (fun p' m k' q i=>by injection q with q;subst q;exact⟨k.out.size,by simp,B0f (d.out m k' i)⟩)) rfl
 ·intro v w1 o l;go_wp2_with (fail);refine A56 o _ ?_;intro t j r;obtain⟨A,C⟩:=A2O (K3 L 100 st).data.toList;have a:∀p,st=some p→D2 L p.1=if Y8 (A0 L p.1) then some (Y1 (⟨#[]⟩++A0 L p.1),p.1+1) else none:=fun p e=>by unfold D2;rw[if_neg (by rw[show ((A0 L p.1).toList==wMI.toList)=false from v p e];decide)]
  have f:st.bind (yL L)=st.bind (yK L 100):=by
   cases z:st with
   |none=>rfl
   |some p=>
    simp only[z0];unfold yL yK;rw[a p z];by_cases c:Y8 (A0 L p.1)=true
    ·rw[if_pos c,if_pos (A46.2 c)];rfl
    ·rw[if_neg c,if_neg (fun e=>c (A46.1 e))];rfl
  have d:∀p n k',st=some p→D2 L p.1=some (n,k')→A0F 0 (K3 L 100 st).data.toList=c40 n:=fun p n k' x e=>by rw[a p x] at e;obtain⟨c,e⟩:=D3.1 e;injection e with e;injection e with e _;have i:K3 L 100 st=A0 L p.1:=(by rw[x];unfold K3;simp only[z0];unfold yK;rw[if_pos (A46.2 c)];rfl);rw[i,←e];exact A6C c (A7n h c)
  rw[f] at g;generalize A0F 0 (K3 L 100 st).data.toList=n at*;have k:=hd (l.step r);replace j:=hd j;replace d:=hd d;replace a:=hd a;replace f:=hd f;replace v:=hd v;clear l r o;go_wp2_with (fail);refine S1 _ n 2 (by omega) _ ?_;go_wp2;exact A6 (g.out _ t.heap.size (j.out.alloc _) (k.out.alloc _) k.out.size (by simp) (fun p' m k' q i=>⟨k.out.size,by simp,B0f (d.out p' m k' q i)⟩)) rfl
end
end
section
def yE (L:LB)(f:Nat)(d:Int)(p:Nat×Int):Option (Nat×Int):=(qE L f p.1).map (fun q=>(q.2,max p.2 (d+C5 q.1)))
def plQ (L:LB)(f k:Nat):Option (Option Ex×Nat):=if B6 (A0 L (k+1)) wLB then (qE L f (k+2)).bind (fun p=>(xS L wRB p.2).bind (fun k'=>some (some p.1,k'))) else some (none,k+1)
def mkE (s:BA)(x:Option Ex):Ex:=match x with|none=>.plc s|some i=>.idx s i
def ExD (L:LB)(f:Nat):Prop:=∀{B bp:Nat}{tv:VL}{a:Option (Nat×Int)}{d:Nat}{w:WD},Du B bp tv L a w→(∀p,a=some p→(d:Int)≤p.2∧L.length<p.1+f)→d+f≤100000→∀(R:RP),(∀w' b,Du B bp tv L (a.bind (yE L f d)) w'→A8 bp w w'→w.heap.size≤b→b<w'.heap.size→(∀p e k',a=some p→qE L f p.1=some (e,k')→p.1<k'∧DE TA e w.heap.size w'.heap.size w' b)→R (.returned (.pointer (some ⟨b,0,none⟩))) w')→Calls Tryz.prog 203 #[.pointer (some ⟨bp,0,none⟩),.int .i64 (d:Int)] w R
theorem DE.only {a:Ex→Int→Prop}{e:Ex}{lo hi b bp:Nat}{w w':WD}(h:DE a e lo hi w b)(d:A8 bp w w')(g:bp<lo)(i:hi≤w.heap.size):DE a e lo hi w' b:=h.keep (fun c f j=>d.block c (by omega) (by omega))
theorem DE.set {a:Ex→Int→Prop}{e:Ex}{lo hi b g:Nat}{w:WD}(h:DE a e lo hi w b)(f:g<lo∨hi≤g)(i:Nat)(v:VL):DE a e lo hi (w.setCell ⟨g,i,none⟩ v) b:=h.keep (fun c d j=>y8 _ _ _ _ (show c≠g by omega))
section
variable {B bp:Nat}{tv:VL}{L:LB}{w:WD}
theorem B1M {f k d:Nat}{D:Int}(hE:ExD L f)(h:Du B bp tv L (some (k,D)) w)(hn:O7 (A0 L k)=true)(hd0:(d:Int)≤D)(hk:L.length<k+2+f)(hf:d+1+f≤100000)(R:RP)(l:∀w' b,Du B bp tv L ((plQ L f k).map (fun q=>(q.2,max D ((d:Int)+C5 (mkE (A0 L k) q.1))))) w'→A8 bp w w'→w.heap.size≤b→b<w'.heap.size→(∀x k',plQ L f k=some (x,k')→k<k'∧DE TA (mkE (A0 L k) x) w.heap.size w'.heap.size w' b)→R (.returned (.pointer (some ⟨b,0,none⟩))) w'):Calls Tryz.prog 202 #[.pointer (some ⟨bp,0,none⟩),.int .i64 (d:Int)] w R:=by
 have hbB:=h.blt;have hle:=h.le;have hk9:=h.kle;have e0:(some (k,D):Option (Nat×Int)).bind (yK L 110)=some (k+1,D):=(by simp only[z0];unfold yK;rw[if_pos (A65.2 hn)]);have G:K3 L 110 (some (k,D))=A0 L k:=(by unfold K3;rw[e0];rfl);replace l:=hd l;go_enter Tryz.func202,Tryz.ntmps202;go_wp2_with (fail);refine A7w (c:=110) h (by omega) _ ?_;rw[e0,G];intro w1 h1 o1;have hz1:=o1.size;have v:(w1.alloc (Obj.cells #[.int .u8 110,.int .i64 0,.bool false,.string (A0 L k),.string ⟨#[]⟩,.pointer none,.pointer none,.int .i64 0] 194)).heap[w1.heap.size]? =some (.cells #[.int .u8 110,.int .i64 0,.bool false,.string (A0 L k),.string ⟨#[]⟩,.pointer none,.pointer none,.int .i64 0] 194):=A2;have Z:=h1.alloc (Obj.cells #[.int .u8 110,.int .i64 0,.bool false,.string (A0 L k),.string ⟨#[]⟩,.pointer none,.pointer none,.int .i64 0] 194);have T:=o1.alloc (Obj.cells #[.int .u8 110,.int .i64 0,.bool false,.string (A0 L k),.string ⟨#[]⟩,.pointer none,.pointer none,.int .i64 0] 194);have hzA:w1.heap.size+1≤(w1.alloc (Obj.cells #[.int .u8 110,.int .i64 0,.bool false,.string (A0 L k),.string ⟨#[]⟩,.pointer none,.pointer none,.int .i64 0] 194)).heap.size:=(by simp);clear e0 G o1;replace h1:=hd h1;go_wp2_with (fail);refine dIs (s:=wLB) Z (by decide) (.inr (by kernel_rfl)) _ ?_ ?_
 ·intro p C eT w2 F u;injection C with C;subst C;simp only at eT F;have j:plQ L f k=(qE L f (k+2)).bind (fun p=>(xS L wRB p.2).bind (fun k'=>some (some p.1,k'))):=(by unfold plQ;rw[if_pos eT]);rw[j] at l;have hz2:=u.size;have y:=(u.block _ (by simp) (by omega)).trans v;have Q:=T.step u;clear v T u Z;generalize w1.heap.size=b at*;have j1:IntKind.i64.wrap ((d:Int)+1)=(d:Int)+1:=z4 _ (by omega);replace j:=hd j;go_wp2_with (fail);refine A3A F _ _ ?_;simp only[z3];intro w3 V P;have hz3:=P.size;have n:=(P.block b (by omega) (by omega)).trans y;have oC:=Q.step P;clear Q P y F;have a0:=A1 (i:=0) n rfl;have f0:=B2 (i:=0) n;have U:b<w3.heap.size:=(y0.1 n).1;have h4:=hd (V.setNew (show B≤b by omega) 0 (.int .u8 120));have N:=hd (A4 (i:=0) n (.int .u8 120));have oD:=hd (oC.setCell (a:=⟨b,0,none⟩) (.inr (by omega)) (.int .u8 120));replace V:=hd V;replace n:=hd n;clear oC;go_wp2_with (fail);rw[show ((d:Int)+1)=((d+1:Nat):Int) by omega];refine hE h4.out (fun p e=>?_) (by omega) _ ?_
  ·injection e with e;subst e;simp only;omega
  obtain⟨r,M⟩:∃r,r=qE L f (k+2):=⟨_,rfl⟩;have es:(some (k+1+1,max D ((d:Int)+1)):Option (Nat×Int)).bind (yE L f ((d+1:Nat):Int))=r.map (fun q=>(q.2,max (max D ((d:Int)+1)) (((d+1:Nat):Int)+C5 q.1))):=(by rw[M];rfl);rw[es];intro S H h5 o5 Y hb2' K;have o:∀e k',r=some (e,k')→k+2<k'∧DE TA e (w3.setCell ⟨b,0,none⟩ (.int .u8 120)).heap.size S.heap.size S H:=fun e k' z=>K _ e k' rfl (by rw[M] at z;exact z);rw[z1] at o Y;have m:=(o5.block b (by rw[z1];omega) (by omega)).trans N.out;have oE:=oD.out.step o5;have a5:=A1 (i:=5) m rfl;have f5:=B2 (i:=5) m;have hz5:b<S.heap.size:=(y0.1 m).1;have h6:=hd (h5.setNew (show B≤b by omega) 5 (.pointer (some ⟨H,0,none⟩)));have J:=hd (A4 (i:=5) m (.pointer (some ⟨H,0,none⟩)));have oF:=hd (oE.setCell (a:=⟨b,5,none⟩) (.inr (by omega)) (.pointer (some ⟨H,0,none⟩)));replace o:=hd o;replace h5:=hd h5;replace m:=hd m;replace M:=hd M;clear K o5 oE oD N h4 es;go_wp2_with (fail);refine P3 (s:=wRB) h6.out (by decide) (.inr (by kernel_rfl)) _ ?_;intro w7 h7 O;have hz7:=O.size;rw[z1] at hz7;have X:=hd ((O.block b (by rw[z1];omega) (by omega)).trans J.out);have oG:=hd (oF.out.step O);have A:∀e k',r=some (e,k')→k+2<k'∧DE TA e w3.heap.size S.heap.size w7 H:=fun e k' z=>⟨(o.out e k' z).1,(((o.out e k' z).2.set (.inl U) 5 _).only O (by omega) (by rw[z1];exact z2 _))⟩;replace A:=hd A;replace h7:=hd h7;clear O oF J h6 o;have t:r.bind (fun p=>(xS L wRB p.2).bind (fun k'=>some (some p.1,k')))=(qE L f (k+2)).bind (fun p=>(xS L wRB p.2).bind (fun k'=>some (some p.1,k'))):=(by rw[M.out]);rw[←t] at l;replace t:=hd t;go_wp2;refine A6 (l.out _ b ?_ oG.out (by omega) (by omega) (fun x k' e=>?_)) rfl
  ·have g:=h7.out;cases hr:r with
   |none=>rw[hr] at g;exact g
   |some q=>
    rw[hr] at g;simp only[z3,z0] at g ⊢;unfold yS at g;unfold xS;simp only at g;by_cases c:B6 (A0 L q.2) wRB=true
    ·rw[if_pos c] at g ⊢;have:=B4 q.1;have em:max (max D ((d:Int)+1)) (((d+1:Nat):Int)+C5 q.1)=max D ((d:Int)+C5 (mkE (A0 L k) (some q.1))):=(by simp only[mkE,C5];omega);rw[em] at g;exact g
    ·rw[if_neg c] at g ⊢;exact g
  ·obtain⟨q,G,z⟩:=C8 e;obtain⟨k3,e3,I⟩:=C8 z;injection I with I;injection I with I e5;obtain⟨e6,e7⟩:=A.out q.1 q.2 G;have e8:=(C9 e3).2;subst I;refine⟨by omega,by omega,by omega,H,⟨0,trivial,R5 X.out rfl (X6 rfl rfl rfl rfl rfl rfl rfl rfl)⟩,e7.wide (by omega) (by omega)⟩
 ·intro E w2 F u;have j:plQ L f k=some (none,k+1):=(by unfold plQ;rw[if_neg (by rw[E (k+1,D) rfl];decide)]);rw[j] at l;have hz2:=u.size;have y:=hd ((u.block _ (by simp) (by omega)).trans v);have Q:=hd (T.step u);replace F:=hd F;replace E:=hd E;clear T u Z v;generalize w1.heap.size=b at*;replace j:=hd j;go_wp2;refine A6 (l.out _ b ?_ Q.out (by omega) (by omega) (fun x k' e=>?_)) rfl
  ·have em:max D ((d:Int)+C5 (mkE (A0 L k) none))=D:=(by simp only[mkE,C5];omega);simp only[z3,em];exact F.out
  ·injection e with e;injection e with G z;subst G;exact⟨by omega,by omega,by omega,⟨0,trivial,R5 y.out rfl (X6 rfl rfl rfl rfl rfl rfl rfl rfl)⟩⟩
end
end
section
variable {B bp:Nat}{tv:VL}{L:LB}{st:Option (Nat×Int)}{w:WD}
theorem A8C (h:Du B bp tv L st w)(l:lkS L st=⟨#[]⟩)(d:Int)(R:RP)(e:∀w' b,Du B bp tv L none w'→A8 bp w w'→w.heap.size≤b→b<w'.heap.size→R (.returned (.pointer (some ⟨b,0,none⟩))) w'):Calls Tryz.prog 203 #[.pointer (some ⟨bp,0,none⟩),.int .i64 d] w R:=by
 have o:=h.blt;have n:=h.le;replace e:=hd e;go_enter Tryz.func203,Tryz.ntmps203;go_wp2_with (fail);refine A1z h _ ?_;rw[l];intro w1 j g;rw[show A2x ⟨#[]⟩=.agg #[.int .u8 0,.string ⟨#[]⟩] from rfl];obtain⟨k,f,D,c,_⟩:=j.dr;have s:w1.cell? ⟨bp,2,none⟩=some (.bool f):=c.row.cell (i:=2) (by omega);have t:=c.row.frozen 2;have r:=c.row.lt;have p:=hd ((j.bad.alloc (Obj.cells #[.int .u8 0,.string ⟨#[]⟩] 176)).alloc (Obj.cells #[.int .u8 108,.int .i64 0,.bool false,.string ⟨#[]⟩,.string ⟨#[]⟩,.pointer none,.pointer none,.int .i64 0] 194));have m:=hd ((((A8.of_below (b:=bp) g).setCell (a:=⟨bp,2,none⟩) (.inl rfl) (.bool true)).alloc (Obj.cells #[.int .u8 0,.string ⟨#[]⟩] 176)).alloc (Obj.cells #[.int .u8 108,.int .i64 0,.bool false,.string ⟨#[]⟩,.string ⟨#[]⟩,.pointer none,.pointer none,.int .i64 0] 194));have q:=g.size;replace j:=hd j;replace g:=hd g;replace c:=hd c;clear h l;cases f;all_goals
  go_wp2
  exact A6 (e.out _ (w1.heap.size+1) p.out m.out (by omega) (by simp)) rfl
end
def amB (s:BA)(ls:LB):Bool:=ls.any (fun x=>B6 x s)
def A41 (w:WD)(ls:LB)(lv:VL):Prop:=∃b a,lv=.slice b ls.length a∧ls.length≤a∧(0<ls.length→∃g,b=some ⟨g,0,none⟩∧g<w.heap.size∧∀(j:Nat) (s:BA),ls[j]? =some s→w.cell? ⟨g,j,none⟩=some (.string s))
theorem B3m {s:BA}{ls:LB}{i:Nat}{x:BA}(h:ls[i]? =some x):amB s (ls.take (i+1))=(amB s (ls.take i)||B6 x s):=by unfold amB;rw[List.take_add_one,h,Option.toList_some,List.any_append];simp
theorem V6 (w:WD)(s:BA){ls:LB}{lv:VL}(h:A41 w ls lv)(u:ls.length≤1000000)(R:RP)(a:R (.returned (.bool (amB s ls))) w):Calls Tryz.prog 93 #[.string s,lv] w R:=by
 obtain⟨y,t,rfl,z,n⟩:=h;obtain⟨X,c⟩:∃X,X=amB s ls:=⟨_,rfl⟩;rw[←c] at a;replace a:=hd a;replace n:=hd n;go_enter Tryz.func93,Tryz.ntmps93;go_wp2;go_loopw [5] (fun l wr=>∃i:Nat,i≤ls.length∧l=.int .i64 (i:Int)∧wr=w∧amB s (ls.take i)=false) (fun l _=>ls.length-(intOf l).toNat);case atStart=>exact⟨0,x0 _,rfl,rfl,rfl⟩
 case round=>
  obtain⟨i,hi,rfl,rfl,b⟩:=hrel;by_cases m:i<ls.length
  ·have q:decide ((i:Int)<(ls.length:Int))=true:=(by simp;omega);obtain⟨x,f⟩:∃x,ls[i]? =some x:=⟨_,z5 m⟩;obtain⟨g,rfl,o,k⟩:=n.out (by omega);have v:wr.cell? ⟨g,i,none⟩=some (.string x):=k i _ f;have r:(0:Int)≤(i:Int)∧(i:Int)<(ls.length:Int):=(by omega);have d:=B3m (s:=s) f;rw[b,Bool.false_or] at d;cases e:B6 x s with
   |true=>
    have p:(x.toList==s.toList)=true:=e;have j:X=true:=(by rw[c];exact List.any_eq_true.2 ⟨x,z7 f,e⟩);rw[j] at a;replace c:=hd c;replace d:=hd d;replace j:=hd j;clear k b f;go_wp2;exact A6 a.out rfl
   |false=>
    have p:(x.toList==s.toList)=false:=e;rw[e] at d;replace c:=hd c;replace d:=hd d;clear k b f;go_wp2;exact⟨⟨i+1,by omega,by go_num,by first|rfl|trivial,d.out⟩,by simp[intOf];omega⟩
  ·have q:decide ((i:Int)<(ls.length:Int))=false:=(by simp;omega);rw[y4 (by omega),←c] at b;rw[b] at a;clear c b;go_wp2;exact A6 a.out rfl
def opZ:LB:=[P6 0,P6 1,P6 2,P6 3,P6 4,P6 5,P6 6,P6 7,P6 8]
theorem A9m (s t:BA):B6 s t=B6 t s:=by unfold B6;exact Bool.beq_comm
theorem B1q (s:BA):B6 s s=true:=T9 rfl
theorem B8K (L:LB)(k:Nat):amB (A0 L k) opZ=(opP L k).isSome:=by have e:opZ=(List.range 9).map P6:=rfl;unfold amB opP;rw[e,List.any_map,List.isSome_find?];congr 1;funext i;exact A9m _ _
def yO (L:LB)(p:Nat×Int):Option (Nat×Int):=(opP L p.1).map (fun _=>(p.1+1,p.2))
theorem Du.atNone {B bp:Nat}{a:VL}{L:LB}{w:WD}(h:Du B bp a L none w)(v:Int):Du B bp a L none (w.setCell ⟨bp,1,none⟩ (.int .i64 v)):=by obtain⟨k,D,h⟩:=h;exact⟨v,D,h.setAt v⟩
theorem A0c {t s:BA}{l:List UInt8}(e:s.toList=l):(t.toList==l)=B6 t s:=by unfold B6;rw[e]
theorem B9I:wMI.toList=[45]:=by kernel_rfl
theorem B4d:V5.toList=[84,82,85,69]:=by kernel_rfl
theorem B1T:Q0.toList=[70,65,76,83,69]:=by kernel_rfl
theorem B5P:A1K.toList=[78,79,84]:=by kernel_rfl
theorem B1A:R4.toList=[83,72,79,82,84]:=by kernel_rfl
theorem B8l:wLP.toList=[40]:=by kernel_rfl
theorem B7G:A3u.toList=[84,79,78]:=by kernel_rfl
theorem Q2 {L:LB}{s:BA}{p q:Nat×Int}:yS L s p=some q↔xS L s p.1=some q.1∧q.2=p.2:=by
 unfold yS xS;by_cases c:B6 (A0 L p.1) s=true
 ·rw[if_pos c,if_pos c];constructor
  ·intro h;injection h with h;subst h;exact⟨rfl,rfl⟩
  ·rintro⟨a,h2⟩;injection a with a;rw[a,←h2]
 ·rw[if_neg c,if_neg c];exact⟨(fun h=>by cases h),(fun h=>by cases h.1)⟩
theorem A8s {L:LB}{p q:Nat×Int}:yK L 110 p=some q↔xN L p.1=some q.1∧q.2=p.2:=by
 unfold yK xN;by_cases c:O7 (A0 L p.1)=true
 ·rw[if_pos (A65.2 c),if_pos c];constructor
  ·intro h;injection h with h;subst h;exact⟨rfl,rfl⟩
  ·rintro⟨a,h2⟩;injection a with a;rw[a,←h2]
 ·rw[if_neg (fun e=>c (A65.1 e)),if_neg c];exact⟨(fun h=>by cases h),(fun h=>by cases h.1)⟩
def B41 (L:LB)(f k:Nat):Option (Ex×Nat):=(((xS L wLP (k+1)).bind (xN L)).bind (xS L wCM)).bind (fun b=>(qE L f b).bind (fun p=>(xS L wCM p.2).bind (fun a=>(qE L f a).bind (fun q=>(xS L wRP q.2).bind (fun k'=>some (.dly (A0 L (k+2)) p.1 q.1,k'))))))
theorem B76 {L:LB}{f k:Nat}{d:Nat}{D:Int}{j z m E l o Q:Option (Nat×Int)}(N:j=yS L wLP (k+1,max D ((d:Int)+1)))(t:z=j.bind (yK L 110))(F:m=z.bind (yS L wCM))(n:E=m.bind (yE L f ((d+1:Nat):Int)))(i:l=E.bind (yS L wCM))(c:o=l.bind (yE L f ((d+1:Nat):Int)))(T:Q=o.bind (yS L wRP)):(B41 L f k).map (fun q=>(q.2,max D ((d:Int)+C5 q.1)))=Q∧∀e k',B41 L f k=some (e,k')→∃M a S O b U,m=some M∧K3 L 110 j=A0 L (k+2)∧qE L f M.1=some (a,S)∧l=some O∧qE L f O.1=some (b,U)∧e=.dly (A0 L (k+2)) a b∧k<k':=by
 subst T;unfold B41;have hn:∀{s:Option (Nat×Int)}{g:Nat×Int→Option (Nat×Int)},s=none→s.bind g=none:=fun h=>by rw[h];rfl
 cases u:xS L wLP (k+1) with
 |none=>
  have:j=none:=(by rw[N];cases h:yS L wLP (k+1,max D ((d:Int)+1)) with|none=>rfl|some q=>rw[(Q2.1 h).1] at u;cases u);rw[c,i,n,F,t,this];exact⟨rfl,fun e k' h=>by cases h⟩
 |some k2=>
  obtain⟨y2,rfl⟩:=A10.1 u;have H:j=some (k+1+1,max D ((d:Int)+1)):=(by rw[N];exact Q2.2 ⟨u,rfl⟩);simp only[z0];cases B:xN L (k+1+1) with
  |none=>
   have:z=none:=(by rw[t,H];simp only[z0];cases h:yK L 110 (k+1+1,max D ((d:Int)+1)) with|none=>rfl|some q=>rw[(A8s.1 h).1] at B;cases B);rw[c,i,n,F,this];exact⟨rfl,fun e k' h=>by cases h⟩
  |some k3=>
   obtain⟨y3,rfl⟩:=A4S.1 B;have J:z=some (k+1+1+1,max D ((d:Int)+1)):=(by rw[t,H];exact A8s.2 ⟨B,rfl⟩);have G:K3 L 110 j=A0 L (k+2):=(by unfold K3;rw[←t,J,H];rfl);simp only[z0];cases x:xS L wCM (k+1+1+1) with
   |none=>
    have:m=none:=(by rw[F,J];simp only[z0];cases h:yS L wCM (k+1+1+1,max D ((d:Int)+1)) with|none=>rfl|some q=>rw[(Q2.1 h).1] at x;cases x);rw[c,i,n,this];exact⟨rfl,fun e k' h=>by cases h⟩
   |some k4=>
    obtain⟨Z,rfl⟩:=A10.1 x;have K:m=some (k+1+1+1+1,max D ((d:Int)+1)):=(by rw[F,J];exact Q2.2 ⟨x,rfl⟩);simp only[z0];cases C:qE L f (k+1+1+1+1) with
    |none=>
     have:E=none:=(by rw[n,K];simp only[z0,yE];rw[C];rfl);rw[c,i,this];exact⟨rfl,fun e k' h=>by cases h⟩
    |some p=>
     have P:E=some (p.2,max (max D ((d:Int)+1)) (((d+1:Nat):Int)+C5 p.1)):=(by rw[n,K];simp only[z0,yE];rw[C];rfl);simp only[z0];cases r:xS L wCM p.2 with
     |none=>
      have:l=none:=(by rw[i,P];simp only[z0];cases h:yS L wCM (p.2,max (max D ((d:Int)+1)) (((d+1:Nat):Int)+C5 p.1)) with|none=>rfl|some q=>rw[(Q2.1 h).1] at r;cases r);rw[c,this];exact⟨rfl,fun e k' h=>by cases h⟩
     |some k6=>
      have I:l=some (k6,max (max D ((d:Int)+1)) (((d+1:Nat):Int)+C5 p.1)):=(by rw[i,P];exact Q2.2 ⟨r,rfl⟩);simp only[z0];cases y:qE L f k6 with
      |none=>
       have:o=none:=(by rw[c,I];simp only[z0,yE];rw[y];rfl);rw[this];exact⟨rfl,fun e k' h=>by cases h⟩
      |some q=>
       have R:o=some (q.2,max (max (max D ((d:Int)+1)) (((d+1:Nat):Int)+C5 p.1)) (((d+1:Nat):Int)+C5 q.1)):=(by rw[c,I];simp only[z0,yE];rw[y];rfl);simp only[z0];rw[R];simp only[z0];cases A:xS L wRP q.2 with
       |none=>
        refine⟨?_,fun e k' h=>by cases h⟩;simp only[Option.bind_none,Option.map_none];cases h:yS L wRP (q.2,max (max (max D ((d:Int)+1)) (((d+1:Nat):Int)+C5 p.1)) (((d+1:Nat):Int)+C5 q.1)) with|none=>rfl|some v=>rw[(Q2.1 h).1] at A;cases A
       |some k8=>
        have n1:=B4 p.1;have Y:=B4 q.1;refine⟨?_,fun e k' h=>⟨_,p.1,p.2,_,q.1,q.2,K,G,C,I,y,?_,?_⟩⟩
        ·simp only[z0,z3];symm;refine Q2.2 ⟨A,?_⟩;simp only[C5];omega
        ·injection h with h;injection h with h _;exact h.symm
        ·injection h with h;injection h with _ h;have X:=Cn.e C;have V:=Cn.e y;have z6:=(C9 r).2;have z8:=(C9 A).2;have:=X.1;have:=V.1;omega
end Go.Proofs.YtidhiaaicmfabaaGreatDoor
