/- Texts (its parts, joined). -/
import Derived.Test.YtidhiaaicmfabaaGreatDoorTqAL
import Derived.WalkSmall
import Derived.Deep.AppendLies
import Derived.Deep.RegionLaw
open Bool renaming and_eq_true→z0
open Array renaming getElem?_eq_some_iff→z1
open List renaming getElem?_of_mem→z2
namespace Go.Proofs.YtidhiaaicmfabaaGreatDoor
open Go.RowKit Go.Proofs Go.Deep
set_option maxRecDepth 100000
set_option maxHeartbeats 4000000
section
structure Pn (B bp:Nat)(pv:VL)(L:LB)(d:Int)(us:LB)(uv:VL)(w:WD):Prop where
 pa:Pa bp pv L L.length d uv true w
 own:w.ownsRow B 9 1 uv us.length (N6 us)
 lt:bp<B
 le:B≤w.heap.size
 few:us.length≤L.length+1
 old:∀g a,pv=.slice (some ⟨g,0,none⟩) L.length a→g<B
 ops:∀i v,opC[i]? =some v→w.cell? ⟨4,i,none⟩=some v
 opB:4<B∧4≠bp
section
variable {B bp:Nat}{pv:VL}{L:LB}{k:Nat}{d:Int}{us:LB}{uv:VL}{w:WD}
theorem Pn.only (h:Pn B bp pv L d us uv w){d':Int}{w':WD}(c:Pa bp pv L L.length d' uv true w')(a:A8 bp w w'):Pn B bp pv L d' us uv w':=
 ⟨c,A5 h.own (fun j _ hB b=>a.block j b (by have:=h.lt;omega)),h.lt,Nat.le_trans h.le a.size,h.few,h.old,fun i v e=>(a.cell (p:=⟨4,i,none⟩) (by have:=h.opB.1;have:=h.le;show 4<_;omega) h.opB.2).trans (h.ops i v e),h.opB⟩
theorem Ps.bad (h:Ps B bp pv L k d us uv w){d':Int}{w':WD}(c:Pa bp pv L L.length d' uv true w')(a:A8 bp w w'):Pn B bp pv L d' us uv w':=
 ⟨c,A5 h.own (fun j _ hB b=>a.block j b (by have:=h.lt;omega)),h.lt,Nat.le_trans h.le a.size,by have:=h.few;have:=h.pa.le;omega,h.old,fun i v e=>(a.cell (p:=⟨4,i,none⟩) (by have:=h.opB.1;have:=h.le;show 4<_;omega) h.opB.2).trans (h.ops i v e),h.opB⟩
end
theorem A7A (w:WD){bp:Nat}{pv:VL}{L:LB}{k:Nat}{d:Int}{uv:VL}{e:Bool}(h:Pa bp pv L k d uv e w)(R:RP)(b:∀w',Pa bp pv L L.length d uv true w'→A8 bp w w'→R (.returned (.tuple #[])) w'):Calls Tryz.prog 135 #[.pointer (some ⟨bp,0,none⟩)] w R:=by obtain⟨m,l,rfl,f,g⟩:=h.parts;have p:w.cell? ⟨bp,4,none⟩=some (.bool e):=h.row.cell (i:=4) (by omega);have s:=h.row.frozen 4;have o:=h.row.lt;have c:=h.setBad true;have q:(w.setCell ⟨bp,4,none⟩ (.bool true)).cell? ⟨bp,0,none⟩=some (.slice m L.length l):=c.row.cell (i:=0) (by omega);have r:(w.setCell ⟨bp,4,none⟩ (.bool true)).cell? ⟨bp,1,none⟩=some (.int .i64 (k:Int)):=c.row.cell (i:=1) (by omega);have n:=c.row.frozen 1;have j:=hd (c.setAt (k':=L.length) (Nat.le_refl _));replace b:=hd b;replace c:=hd c;clear h;go_enter Tryz.func135,Tryz.ntmps135;go_wp2;go_end0;exact b.out _ j.out (((A8.refl _ _).setCell (a:=⟨bp,4,none⟩) (.inl rfl) _).setCell (a:=⟨bp,1,none⟩) (.inl rfl) _)
section
variable {B bp:Nat}{pv:VL}{L:LB}{k:Nat}{d:Int}{us:LB}{uv:VL}{w:WD}
theorem A5y (L:LB):A0 L L.length=⟨#[]⟩:=G7 (by omega)
theorem A4P (h:Pn B bp pv L d us uv w)(R:RP)(a:∀w',Pn B bp pv L d us uv w'→Fu bp uv uv w w'→R (.returned (.tuple #[])) w'):Calls Tryz.prog 135 #[.pointer (some ⟨bp,0,none⟩)] w R:=
 A7A _ h.pa _ (fun w' c b=>a w' (h.only c b) (Fu.of_only b))
theorem A4R (h:Ps B bp pv L k d us uv w)(R:RP)(a:∀w',Pn B bp pv L d us uv w'→Fu bp uv uv w w'→R (.returned (.tuple #[])) w'):Calls Tryz.prog 135 #[.pointer (some ⟨bp,0,none⟩)] w R:=
 A7A _ h.pa _ (fun w' c b=>a w' (h.bad c b) (Fu.of_only b))
theorem A7V (h:Pn B bp pv L d us uv w)(R:RP)(a:∀w',Pn B bp pv L d us uv w'→Fu bp uv uv w w'→R (.returned (.string ⟨#[]⟩)) w'):Calls Tryz.prog 134 #[.pointer (some ⟨bp,0,none⟩)] w R:=
 A03 _ h.pa _ (fun w' c b=>by rw[A5y];exact a w' (h.only c (A8.of_below b)) (Fu.of_below b))
theorem A3k (h:Pn B bp pv L d us uv w){s:BA}(e:((⟨#[]⟩:BA).toList==s.toList)=false)(R:RP)(a:∀w',Pn B bp pv L d us uv w'→Fu bp uv uv w w'→R (.returned (.bool false)) w'):Calls Tryz.prog 196 #[.pointer (some ⟨bp,0,none⟩),.string s] w R:=
 A5u _ h.pa s (by rw[A5y];exact e) _ (fun w' c b=>a w' (h.only c b) (Fu.of_only b))
theorem A0u {s t:BA}(h:(s.toList==t.toList)=true):s=t:=by have:=eq_of_beq h;rw[ByteArray.toList_eq,ByteArray.toList_eq] at this;cases s;cases t;congr 1;exact Array.toList_inj.1 this
theorem A38 (h:Ps B bp pv L k d us uv w){s:BA}(b:s.size≠0)(R:RP)(a:A0 L k=s→∀w',Ps B bp pv L (k+1) d us uv w'→Fu bp uv uv w w'→R (.returned (.bool true)) w')(c:((A0 L k).toList==s.toList)=false→∀w',Ps B bp pv L k d us uv w'→Fu bp uv uv w w'→R (.returned (.bool false)) w'):Calls Tryz.prog 196 #[.pointer (some ⟨bp,0,none⟩),.string s] w R:=by
 cases e:((A0 L k).toList==s.toList) with
 |true=>exact B6r h (A0u e) b R (a (A0u e))
 |false=>exact B1r h e R (c e)
theorem B0m (h:Pn B bp pv L d us uv w){s:BA}(i:((⟨#[]⟩:BA).toList==s.toList)=false)(R:RP)(a:∀w',Pn B bp pv L d us uv w'→Fu bp uv uv w w'→R (.returned (.tuple #[])) w'):Calls Tryz.prog 132 #[.pointer (some ⟨bp,0,none⟩),.string s] w R:=by replace a:=hd a;go_enter Tryz.func132,Tryz.ntmps132;go_wp2_with (fail);refine A3k h i _ ?_;intro w1 g b;replace b:=hd b;go_wp2_with (fail);refine A4P g _ ?_;intro j c e;have f:=hd (b.out.trans e);replace c:=hd c;clear e b;go_wp2;go_end0;exact a.out _ c.out f.out
theorem B68 (h:Ps B bp pv L k d us uv w){s:BA}(l:s.size≠0)(R:RP)(b:A0 L k=s→∀w',Ps B bp pv L (k+1) d us uv w'→Fu bp uv uv w w'→R (.returned (.tuple #[])) w')(c:((A0 L k).toList==s.toList)=false→∀w',Pn B bp pv L d us uv w'→Fu bp uv uv w w'→R (.returned (.tuple #[])) w'):Calls Tryz.prog 132 #[.pointer (some ⟨bp,0,none⟩),.string s] w R:=by
 cases e:((A0 L k).toList==s.toList) with
 |true=>exact B9X h (A0u e) l R (b (A0u e))
 |false=>
  replace c:=hd (c e);go_enter Tryz.func132,Tryz.ntmps132;go_wp2_with (fail);refine B1r h e _ ?_;intro w1 j a;replace a:=hd a;go_wp2_with (fail);refine A4R j _ ?_;intro m f g;have i:=hd (a.out.trans g);replace f:=hd f;clear g a;go_wp2;go_end0;exact c.out _ f.out i.out
end
end
section
def Asc (s:BA):Prop:=∀(j:Nat) (b:UInt8),s.data.toList[j]? =some b→b.toNat<128
def O7 (s:BA):Bool:=decide (0<s.size)&&decide (s.size≤12)&&I3 (bt s 0)&&(s.toList==(⟨(Lib.toLowerA s.data.toList).toArray⟩:BA).toList)
theorem A5l {l:List UInt8}(h:Lib.toLowerA l=l):∀b∈l,¬(65≤b.toNat∧b.toNat≤90):=by intro b e g;unfold Lib.toLowerA at h;obtain⟨j,d⟩:=z2 e;have a:(l.map Lib.lowerB)[j]? =l[j]? :=(by rw[h]);rw[List.getElem?_map,d] at a;simp only[Option.map_some,Option.some.injEq] at a;have c:Lib.isUpperB b=true:=(by unfold Lib.isUpperB;simp only[z0,decide_eq_true_eq,UInt8.le_iff_toNat_le];exact g);unfold Lib.lowerB at a;rw[if_pos c] at a;have f:=congrArg UInt8.toNat a;rw[UInt8.toNat_add] at f;have i:(32:UInt8).toNat=32:=rfl;omega
theorem A1s (s:BA)(i:Nat)(hi:i<s.size):∃b,s.data.toList[i]? =some b∧bt s i=b.toNat:=by have a:i<s.data.toList.length:=(by simpa using hi);refine⟨s.data.toList[i],List.getElem?_eq_getElem a,?_⟩;rw[←J4 s i hi];rfl
theorem A0N {s:BA}(h:O7 s=true)(g:Asc s):O9 s:=by simp only[O7,z0,decide_eq_true_eq] at h;obtain⟨⟨⟨k,l⟩,j⟩,f⟩:=h;refine⟨k,l,j,fun i hi=>?_⟩;have e:Lib.toLowerA s.data.toList=s.data.toList:=(by have:=A0u f;have d:=congrArg (fun t:BA=>t.data.toList) this;simpa using d.symm);obtain⟨b,c,a⟩:=A1s s i hi;rw[a];exact⟨g i b c,A5l e b (List.mem_of_getElem? c)⟩
theorem A1n (w:WD)(s:BA)(j:Asc s)(o:s.size≤1000000)(R:RP)(a:∀w',Below w.heap.size w w'→R (.returned (.bool (O7 s))) w'):Calls Tryz.prog 221 #[.string s] w R:=by
 by_cases f:s.size=0∨I3 (bt s 0)=false
 ·refine A2d w s f R ?_;have:O7 s=false:=by
   unfold O7;rcases f with h|h
   ·rw[h];rfl
   ·rw[h];simp
  rw[←this];exact a w (Below.refl _ _)
 ·have i:0<s.size:=(by omega);have g:I3 (bt s 0)=true:=by
   cases e:I3 (bt s 0) with
   |true=>rfl
   |false=>exact absurd (.inr e) f
  by_cases c:s.size≤12
  ·cases e:(s.toList==(⟨(Lib.toLowerA s.data.toList).toArray⟩:BA).toList) with
   |true=>
    have b:O7 s=true:=(by simp only[O7,z0,decide_eq_true_eq];exact⟨⟨⟨i,c⟩,g⟩,e⟩);have d:=A0N b j;refine A4g w s d.pos d.le d.first d.low R ?_;rw[←b];exact a w (Below.refl _ _)
   |false=>
    have b:O7 s=false:=(by simp only[O7,e,Bool.and_false]);rw[b] at a;exact A8M w s i c g j e R a
  ·have m:=J4 s 0 i;have k:(0:Int)<(s.size:Int):=(by omega);have l:=A1o (t:=s) (by omega);have n:decide ((s.size:Int)≤12)=false:=(by simp;omega);have b:O7 s=false:=(by unfold O7;rw[show decide (s.size≤12)=false by simp;omega];simp);rw[b] at a;replace a:=hd a;go_enter Tryz.func221,Tryz.ntmps221;go_wp2_with (first|(go_at_call 190;refine G3 _ _ _ ?_;rw[g]));exact A6 (a.out _ (Below.refl _ _)) (by first|rfl|simp)
theorem A6F {s:BA}(h:O9 s):O7 s=true:=by
 have i:Lib.toLowerA s.data.toList=s.data.toList:=by
  unfold Lib.toLowerA;refine (List.map_congr_left (g:=id) (fun b k=>?_)).trans (List.map_id _);obtain⟨j,f⟩:=z2 k;have a:j<s.size:=(by have:=(List.getElem?_eq_some_iff.1 f).1;simpa using this);obtain⟨c,d,e⟩:=A1s s j a;rw[f] at d;injection d with d;subst d;have:=(h.low j a).2;rw[e] at this;unfold Lib.lowerB Lib.isUpperB;rw[if_neg]
  ·rfl
  ·simp only[z0,decide_eq_true_eq,UInt8.le_iff_toNat_le];exact this
 simp only[O7,z0,decide_eq_true_eq];refine⟨⟨⟨h.pos,h.le⟩,h.first⟩,?_⟩;rw[i];exact beq_self_eq_true _
section
variable {B bp:Nat}{pv:VL}{L:LB}{k:Nat}{d:Int}{us:LB}{uv:VL}{w:WD}
theorem B5k (h:Pn B bp pv L d us uv w)(R:RP)(a:∀w',Pn B bp pv L d us uv w'→Fu bp uv uv w w'→R (.returned (.string ⟨#[]⟩)) w'):Calls Tryz.prog 197 #[.pointer (some ⟨bp,0,none⟩)] w R:=by have f:=A4B;replace a:=hd a;go_enter Tryz.func197,Tryz.ntmps197;go_wp2_with (fail);go_enter Tryz.func220,Tryz.ntmps220;go_wp2_with (fail);refine A7V h _ ?_;intro w1 i b;replace b:=hd b;go_wp2_with (fail);refine A2d _ ⟨#[]⟩ (.inl rfl) _ ?_;go_wp2_with (fail);refine A4P i _ ?_;intro j c e;have g:=hd (b.out.trans e);replace c:=hd c;clear b e;go_wp2;exact A6 (a.out _ c.out g.out) rfl
def A0f (L:LB):Prop:=∀s∈L,Asc s∧s.size≤1000
theorem A0f.next {L:LB}(h:A0f L)(k:Nat):Asc (A0 L k)∧(A0 L k).size≤1000:=by
 by_cases a:k<L.length
 ·have e:A0 L k=L[k]:=(by unfold A0;simp[a]);rw[e];exact h _ (List.getElem_mem a)
 ·rw[G7 a];exact⟨fun j b c=>by simp at c,by decide⟩
theorem B5g (o:A0f L)(h:Ps B bp pv L k d us uv w)(R:RP)(c:O9 (A0 L k)→∀w',Ps B bp pv L (k+1) d us uv w'→Fu bp uv uv w w'→R (.returned (.string (A0 L k))) w')(i:O7 (A0 L k)=false→∀w',Pn B bp pv L d us uv w'→Fu bp uv uv w w'→R (.returned (.string ⟨#[]⟩)) w'):Calls Tryz.prog 197 #[.pointer (some ⟨bp,0,none⟩)] w R:=by
 obtain⟨g,u⟩:=o.next k;cases e:O7 (A0 L k) with
 |true=>exact B8o h (A0N e g) R (c (A0N e g))
 |false=>
  have n:=A4B;replace i:=hd (i e);go_enter Tryz.func197,Tryz.ntmps197;go_wp2_with (fail);go_enter Tryz.func220,Tryz.ntmps220;go_wp2_with (fail);refine A7c h _ ?_;intro w1 l a;have r:=A1n;generalize A0 L k=s at*;replace a:=hd a;go_wp2_with (fail);refine A1n _ s g (by omega) _ ?_;intro t b;rw[e];have q:=l.only (l.pa.below b) (A8.of_below b) (by omega);have m:=hd (a.out.trans (Fu.of_below b));clear b a;go_wp2_with (fail);refine A4R q _ ?_;intro w3 f j;have p:=hd (m.out.trans j);replace f:=hd f;clear m j;go_wp2;exact A6 (i.out _ f.out p.out) rfl
theorem B6E (h:Pn B bp pv L d us uv w)(m:0≤d∧d≤20)(R:RP)(b:∀w',Pn B bp pv L (d+1) us uv w'→Fu bp uv uv w w'→R (.returned (.tuple #[])) w'):Calls Tryz.prog 234 #[.pointer (some ⟨bp,0,none⟩)] w R:=by
 have p:w.cell? ⟨bp,2,none⟩=some (.int .i64 d):=h.pa.row.cell (i:=2) (by omega);have q:=h.pa.row.frozen 2;have n:=h.pa.row.lt;have c:=h.only (h.pa.setDep (d+1)) ((A8.refl bp w).setCell (a:=⟨bp,2,none⟩) (.inl rfl) _);have e:Fu bp uv uv w (w.setCell ⟨bp,2,none⟩ (.int .i64 (d+1))):=Fu.of_only ((A8.refl bp w).setCell (a:=⟨bp,2,none⟩) (.inl rfl) _);have j:(w.setCell ⟨bp,2,none⟩ (.int .i64 (d+1))).cell? ⟨bp,2,none⟩=some (.int .i64 (d+1)):=c.pa.row.cell (i:=2) (by omega);have o:IntKind.i64.wrap (d+1)=d+1:=IntWalk.i64_in _ (by omega);replace b:=hd b;replace e:=hd e;clear h;by_cases k:d≤9
 ·have t:decide (10<d+1)=false:=(by simp;omega);replace c:=hd c;go_enter Tryz.func234,Tryz.ntmps234;go_wp2;go_end0;exact b.out _ c.out e.out
 ·have t:decide (10<d+1)=true:=(by simp;omega);replace c:=hd c;go_enter Tryz.func234,Tryz.ntmps234;go_wp2_with (fail);refine A4P c.out _ ?_;intro w3 f g;have l:=hd (e.out.trans g);replace f:=hd f;clear g;go_wp2;go_end0;exact b.out _ f.out l.out
theorem A8G (h:Ps B bp pv L k d us uv w)(l:0≤d∧d≤10)(R:RP)(m:d≤9→∀w',Ps B bp pv L k (d+1) us uv w'→Fu bp uv uv w w'→R (.returned (.tuple #[])) w')(g:d=10→∀w',Pn B bp pv L (d+1) us uv w'→Fu bp uv uv w w'→R (.returned (.tuple #[])) w'):Calls Tryz.prog 234 #[.pointer (some ⟨bp,0,none⟩)] w R:=by
 by_cases c:d≤9
 ·exact B5Y h ⟨l.1,c⟩ R (m c)
 ·have b:d=10:=(by omega);replace g:=hd (g b);have s:w.cell? ⟨bp,2,none⟩=some (.int .i64 d):=h.pa.row.cell (i:=2) (by omega);have u:=h.pa.row.frozen 2;have q:=h.pa.row.lt;have e:=h.only (h.pa.setDep (d+1)) ((A8.refl bp w).setCell (a:=⟨bp,2,none⟩) (.inl rfl) _) (Nat.le_refl _);have j:Fu bp uv uv w (w.setCell ⟨bp,2,none⟩ (.int .i64 (d+1))):=Fu.of_only ((A8.refl bp w).setCell (a:=⟨bp,2,none⟩) (.inl rfl) _);have p:(w.setCell ⟨bp,2,none⟩ (.int .i64 (d+1))).cell? ⟨bp,2,none⟩=some (.int .i64 (d+1)):=e.pa.row.cell (i:=2) (by omega);have r:IntKind.i64.wrap (d+1)=d+1:=IntWalk.i64_in _ (by omega);have t:decide (10<d+1)=true:=(by simp;omega);replace j:=hd j;replace e:=hd e;clear h b;go_enter Tryz.func234,Tryz.ntmps234;go_wp2_with (fail);refine A4R e.out _ ?_;intro w3 f n;have o:=hd (j.out.trans n);replace f:=hd f;clear n;go_wp2;go_end0;exact g.out _ f.out o.out
end
end
theorem Ps.bel {B bp:Nat}{pv:VL}{L:LB}{k:Nat}{d:Int}{us:LB}{uv:VL}{w w':WD}(h:Ps B bp pv L k d us uv w)(a:Below w.heap.size w w'):Ps B bp pv L k d us uv w':=h.only (h.pa.below a) (A8.of_below a) (by omega)
theorem A0j {P:Program}{w:WD}{B:Array Oper}{o:Oper}{a:Act}{K:Act→WD→Prop}{Q:Exit→Act→WD→Prop}{E:Prop}(C:o.guard=none)(s x:Operand)(t:TypeId)(Y:o.op=.call { callee:=.builtin .append,args:=#[s,x],argTypes:=#[t,t]})(k:Nat)(e:TypeId)(z:VL)(b f:Nat)(M:P.underlying t=some (.slice e))(p:(P.info? e).map (fun i=>(i.zero,i.size,i.bytes))=some (some z,b,f))(H:z.cells.size=b)(G:0<b)(v:VL)(n:Nat)(xs:List VL)(S:a.eval s=v)(r:w.ownsRow k e b v n xs)(g m c:Nat)(d:List VL)(V:a.eval x=.slice (some ⟨g,0,none⟩) m c)(L:w.heap[g]? =some (.cells d.toArray e))(O:d.length=m*b)(T:∀u∈d,u.oneCell'=true)(U:0<m)(F:n+m≤maxLen)(l:(n+m)*f≤140737488355328)(q:k≤w.heap.size)(h:∀g' cap w',w'.ownsRow k e b (.slice (some ⟨g',0,none⟩) (n+m) cap) (n+m) (xs++d)→w.grownBy w' v.ownBlock→(v.ownBlock=some g'∨g'=w.heap.size)→K (a.put o.dst (.slice (some ⟨g',0,none⟩) (n+m) cap)) w'):if Region.wanted o (yielded B a.tmps)=true then Oper.wp P o a w K Q else E:=by obtain⟨i,hi,y⟩:=Option.map_eq_some_iff.1 p;simp only[Prod.mk.injEq] at y;obtain⟨Z,D,I⟩:=y;refine step_append_lies _ C s x t Y k e i z b f M hi Z D I H G v n xs S r ⟨g,0,none⟩ m c d V O ?_ T U F l q w.heap.size rfl (fun g' cap w' N X R _=>h g' cap w' N X R);intro j u J;have A:(⟨g,0,none⟩:Addr).add j=⟨g,j,none⟩:=(by unfold Addr.add;split<;>simp_all);rw[A,cell_of_row _ g j d.toArray e (0,0) L];simpa using J
theorem C2.below {w w':WD}{lo hi T c n:Nat}{v:VL}{xs:List VL}(h:C2 w lo hi T c v n xs)(d:Below w.heap.size w w'):C2 w' lo hi T c v n xs:=by
 refine⟨⟨h.1.1,?_⟩,h.2⟩;rcases h.1.2 with e|⟨g,cap,cur,rfl,a,b,r⟩
 ·exact .inl e
 ·exact .inr ⟨g,cap,cur,rfl,a,(d.block g (z1.1 b).1).trans b,r⟩
theorem G1.belowZ {kk:Ex→Int}{g:Option Nat}{l:Sl}{lo hi:Nat}{w w':WD}{xs:List VL}(h:G1 kk g l lo hi w xs)(a:Below w.heap.size w w'):G1 kk g l lo hi w' xs:=h.keep (fun b _ _ _ _ _ _ c=>a.block b (z1.1 c).1)
theorem C2.tagZ {w w':WD}{lo hi T d n:Nat}{v:VL}{xs:List VL}(h:C2 w lo hi T d v n xs)(e:∀(b:Nat) (cur:Array VL),w.heap[b]? =some (Obj.cells cur T (0,0))→w'.heap[b]? =w.heap[b]?):C2 w' lo hi T d v n xs:=by
 refine⟨⟨h.1.1,?_⟩,h.2⟩;rcases h.1.2 with f|⟨g,cap,cur,rfl,a,c,r⟩
 ·exact .inl f
 ·exact .inr ⟨g,cap,cur,rfl,a,(e g cur c).trans c,r⟩
end Go.Proofs.YtidhiaaicmfabaaGreatDoor
