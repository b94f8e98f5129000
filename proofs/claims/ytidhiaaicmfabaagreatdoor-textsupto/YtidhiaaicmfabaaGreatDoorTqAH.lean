/- Texts (its parts, joined). -/
import Derived.Test.YtidhiaaicmfabaaGreatDoorTqAD
import Derived.Deep.RegionHeld3
import Derived.Deep.RegionWith
import Derived.Laws.Externs
import Derived.Laws.Strings
open List renaming getD_eq_getElem?_getD→z0,getElem?_eq_none→z1
namespace Go.Proofs.YtidhiaaicmfabaaGreatDoor
open Go.RowKit Go.Proofs Go.Deep
set_option maxRecDepth 100000
set_option maxHeartbeats 4000000
open IntWalk renaming i64_in→z2
def A0e (c:Nat):Bool:=c==32||c==10
def I4 (c:Nat):Bool:=decide (48≤c)&&decide (c≤57)
def I3 (c:Nat):Bool:=(decide (97≤c)&&decide (c≤122))||(decide (65≤c)&&decide (c≤90))
def Z3 (c:Nat):Bool:=I3 c||I4 c||c==95
theorem A1h (c k:Nat):((c:Int)==(k:Int))=(c==k):=by
 by_cases h:c=k
 ·rw[h,beq_self_eq_true,beq_self_eq_true]
 ·rw[beq_eq_false_iff_ne.2 h,beq_eq_false_iff_ne.2 (by omega)]
theorem P8 (w:WD)(c:Nat)(R:RP)(a:R (.returned (.bool (A0e c))) w):Calls Tryz.prog 129 #[.int .u8 (c:Int)] w R:=by
 by_cases h:c=32
 ·have d:((c:Int)==32)=true:=(by simp;omega);have e:A0e c=true:=(by simp[A0e,h]);rw[e] at a;replace a:=hd a;go_enter Tryz.func129,Tryz.ntmps129;go_wp2;exact A6 a.out rfl
 ·have d:((c:Int)==32)=false:=(by simp;omega);have e:A0e c=((c:Int)==10):=(by have:=A1h c 10;simp only[A0e];rw[show ((c:Int)==10)=(c==10) from this];simp[h]);rw[e] at a;replace a:=hd a;go_enter Tryz.func129,Tryz.ntmps129;go_wp2;exact A6 a.out rfl
theorem J6 (w:WD)(c:Nat)(R:RP)(a:R (.returned (.bool (I4 c))) w):Calls Tryz.prog 193 #[.int .u8 (c:Int)] w R:=by
 by_cases h:48≤c
 ·have d:decide ((48:Int)≤(c:Int))=true:=(by simp;omega);have e:I4 c=decide ((c:Int)≤57):=(by have:decide ((c:Int)≤57)=decide (c≤57):=(by by_cases b:c≤57<;>simp[b]<;>omega);rw[this];simp[I4,h]);rw[e] at a;replace a:=hd a;go_enter Tryz.func193,Tryz.ntmps193;go_wp2;exact A6 a.out rfl
 ·have d:decide ((48:Int)≤(c:Int))=false:=(by simp;omega);have e:I4 c=false:=(by simp[I4,h]);rw[e] at a;replace a:=hd a;go_enter Tryz.func193,Tryz.ntmps193;go_wp2;exact A6 a.out rfl
theorem G3 (w:WD)(c:Nat)(R:RP)(a:R (.returned (.bool (I3 c))) w):Calls Tryz.prog 190 #[.int .u8 (c:Int)] w R:=by
 have d:decide ((97:Int)≤(c:Int))=decide (97≤c):=(by by_cases h:97≤c<;>simp[h]<;>omega);have f:decide ((c:Int)≤122)=decide (c≤122):=(by by_cases h:c≤122<;>simp[h]<;>omega);have b:decide ((65:Int)≤(c:Int))=decide (65≤c):=(by by_cases h:65≤c<;>simp[h]<;>omega);have i:decide ((c:Int)≤90)=decide (c≤90):=(by by_cases h:c≤90<;>simp[h]<;>omega);by_cases g:97≤c
 ·have m:decide ((97:Int)≤(c:Int))=true:=(by rw[d];simpa using g);by_cases k:c≤122
  ·have n:decide ((c:Int)≤122)=true:=(by rw[f];simpa using k);have e:I3 c=true:=(by simp[I3,g,k]);rw[e] at a;replace a:=hd a;clear d f b i;go_enter Tryz.func190,Tryz.ntmps190;go_wp2;exact A6 a.out rfl
  ·have n:decide ((c:Int)≤122)=false:=(by rw[f];simpa using k);have l:decide ((65:Int)≤(c:Int))=true:=(by simp;omega);have o:decide ((c:Int)≤90)=false:=(by simp;omega);have e:I3 c=false:=(by simp[I3,k];omega);rw[e] at a;replace a:=hd a;clear d f b i;go_enter Tryz.func190,Tryz.ntmps190;go_wp2;exact A6 a.out rfl
 ·have m:decide ((97:Int)≤(c:Int))=false:=(by rw[d];simpa using g);by_cases j:65≤c
  ·have l:decide ((65:Int)≤(c:Int))=true:=(by rw[b];simpa using j);have e:I3 c=decide ((c:Int)≤90):=(by rw[i];simp[I3,g,j]);rw[e] at a;replace a:=hd a;clear d f b i;go_enter Tryz.func190,Tryz.ntmps190;go_wp2;exact A6 a.out rfl
  ·have l:decide ((65:Int)≤(c:Int))=false:=(by rw[b];simpa using j);have e:I3 c=false:=(by simp[I3,g,j]);rw[e] at a;replace a:=hd a;clear d f b i;go_enter Tryz.func190,Tryz.ntmps190;go_wp2;exact A6 a.out rfl
theorem X0 (w:WD)(c:Nat)(R:RP)(a:R (.returned (.bool (Z3 c))) w):Calls Tryz.prog 192 #[.int .u8 (c:Int)] w R:=by
 have d:((c:Int)==95)=(c==95):=A1h c 95;unfold Z3 at a;replace a:=hd a;cases b:I3 c
 ·cases e:I4 c
  ·rw[b,e,←d] at a;clear d;go_enter Tryz.func192,Tryz.ntmps192;go_wp2_with (first|(go_at_call 190;refine G3 _ _ _ ?_;rw[b])|(go_at_call 193;refine J6 _ _ _ ?_;rw[e]));exact A6 a.out (by simp)
  ·rw[b,e] at a;go_enter Tryz.func192,Tryz.ntmps192;go_wp2_with (first|(go_at_call 190;refine G3 _ _ _ ?_;rw[b])|(go_at_call 193;refine J6 _ _ _ ?_;rw[e]));exact A6 a.out (by simp)
 ·rw[b] at a;go_enter Tryz.func192,Tryz.ntmps192;go_wp2_with (first|(go_at_call 190;refine G3 _ _ _ ?_;rw[b]));exact A6 a.out (by simp)
section
def paF (pv:VL)(k d:Int)(uv:VL)(bad:Bool)(j:Nat):VL:=if j=0 then pv else if j=1 then .int .i64 k else if j=2 then .int .i64 d else if j=3 then uv else .bool bad
structure Pa (bp:Nat)(pv:VL)(L:LB)(k:Nat)(d:Int)(uv:VL)(bad:Bool)(w:WD):Prop where
 row:w.rowIs bp 142 5 (paF pv k d uv bad)
 le:k≤L.length
 sm:L.length≤1000000
 parts:∃a b,pv=.slice a L.length b∧L.length≤b∧(0<L.length→∃g,a=some ⟨g,0,none⟩∧g≠bp∧g<w.heap.size∧∀(j:Nat) (s:BA),L[j]? =some s→w.cell? ⟨g,j,none⟩=some (.string s))
def A0 (L:LB)(k:Nat):BA:=L.getD k ⟨#[]⟩
theorem Pa.below {bp:Nat}{pv:VL}{L:LB}{k:Nat}{d:Int}{uv:VL}{bad:Bool}{w w':WD}(h:Pa bp pv L k d uv bad w)(a:Below w.heap.size w w'):Pa bp pv L k d uv bad w':=by obtain⟨l,i,e,r,q⟩:=h.parts;refine⟨h.row.of_block (a.block _ h.row.lt),h.le,h.sm,l,i,e,r,fun o=>?_⟩;obtain⟨g,c,m,b,n⟩:=q o;exact⟨g,c,m,Nat.lt_of_lt_of_le b a.size,fun j s f=>(a.cell (p:=⟨g,j,none⟩) b).trans (n j s f)⟩
theorem Pa.set {bp:Nat}{pv:VL}{L:LB}{k:Nat}{d:Int}{uv:VL}{bad:Bool}{w:WD}(h:Pa bp pv L k d uv bad w)(j:Nat)(v:VL){k':Nat}{d':Int}{b:VL}{a:Bool}(m:k'≤L.length)(e:∀i,i<5→(if i=j then v else paF pv k d uv bad i)=paF pv k' d' b a i):Pa bp pv L k' d' b a (w.setCell ⟨bp,j,none⟩ v):=by obtain⟨r,o,q,z,y⟩:=h.parts;refine⟨(h.row.set j v).congr e,m,h.sm,r,o,q,z,fun x=>?_⟩;obtain⟨g,l,f,p,u⟩:=y x;exact⟨g,l,f,by rw[World.size_setCell];exact p,fun t s n=>by rw[World.cell?_setCell_other _ _ _ _ (by intro c;injection c with c;exact f c.symm)];exact u t s n⟩
section
variable {bp:Nat}{pv:VL}{L:LB}{k:Nat}{d:Int}{uv:VL}{bad:Bool}{w:WD}
theorem Pa.setAt (h:Pa bp pv L k d uv bad w){k':Nat}(a:k'≤L.length):Pa bp pv L k' d uv bad (w.setCell ⟨bp,1,none⟩ (.int .i64 (k':Int))):=h.set 1 _ a (fun i _=>by unfold paF;by_cases e:i=1<;>simp[e])
theorem Pa.setBad (h:Pa bp pv L k d uv bad w)(b:Bool):Pa bp pv L k d uv b (w.setCell ⟨bp,4,none⟩ (.bool b)):=h.set 4 _ h.le (fun i hi=>by have:i=0∨i=1∨i=2∨i=3∨i=4:=(by omega);rcases this with rfl|rfl|rfl|rfl|rfl<;>rfl)
end
theorem A03 (w:WD){bp:Nat}{pv:VL}{L:LB}{k:Nat}{d:Int}{uv:VL}{bad:Bool}(h:Pa bp pv L k d uv bad w)(R:RP)(a:∀w',Pa bp pv L k d uv bad w'→Below w.heap.size w w'→R (.returned (.string (A0 L k))) w'):Calls Tryz.prog 134 #[.pointer (some ⟨bp,0,none⟩)] w R:=by
 have y:w.cell? ⟨bp,0,none⟩=some pv:=h.row.cell (i:=0) (by omega);have z:w.cell? ⟨bp,1,none⟩=some (.int .i64 (k:Int)):=h.row.cell (i:=1) (by omega);have u:=h.row.lt;have p:=h.le;have r:=h.sm;have b:k≠L.length→0<L.length:=fun h=>by omega
 have c:k≠L.length→k<L.length:=fun h=>by omega
 obtain⟨A,x,rfl,C,f⟩:=h.parts;replace f:=hd f;replace a:=hd a;replace h:=hd h;by_cases j:k=L.length
 ·have e:A0 L k=⟨#[]⟩:=(by unfold A0;rw[z0,z1 (by omega)];rfl);rw[e] at a;have t:((k:Int)==(L.length:Int))=true:=(by rw[j];simp);clear f b c;generalize L.length=n at*;go_enter Tryz.func134,Tryz.ntmps134;go_wp2_with (fail);go_quiet (fail);go_wp2;exact A6 (a.out _ (h.out.below (below_drewN (Below.refl _ _) _)) (below_drewN (Below.refl _ _) _)) rfl
 ·obtain⟨s,m⟩:∃s,L[k]? =some s:=⟨_,List.getElem?_eq_getElem (c j)⟩;have e:A0 L k=s:=(by unfold A0;rw[z0,m];rfl);rw[e] at a;have t:((k:Int)==(L.length:Int))=false:=beq_eq_false_iff_ne.2 (by omega);obtain⟨g,rfl,o,q,l⟩:=f.out (b j);have B:=l k s m;have v:(0:Int)≤(k:Int)∧(k:Int)<(L.length:Int):=(by omega);clear f l b c;generalize L.length=n at*;go_enter Tryz.func134,Tryz.ntmps134;go_wp2_with (fail);go_quiet (fail);go_wp2_with (fail);go_quiet (fail);go_wp2;exact A6 (a.out _ (h.out.below (below_drewN (below_drewN (Below.refl _ _) _) _)) (below_drewN (below_drewN (Below.refl _ _) _) _)) rfl
theorem G7 {L:LB}{k:Nat}(h:¬k<L.length):A0 L k=⟨#[]⟩:=by unfold A0;rw[z0,z1 (by omega)];rfl
theorem A4I (w:WD){bp:Nat}{pv:VL}{L:LB}{k:Nat}{d:Int}{uv:VL}{bad:Bool}(h:Pa bp pv L k d uv bad w)(s:BA)(f:A0 L k=s)(g:s≠⟨#[]⟩)(R:RP)(c:∀w',Pa bp pv L (k+1) d uv bad w'→A8 bp w w'→R (.returned (.bool true)) w'):Calls Tryz.prog 196 #[.pointer (some ⟨bp,0,none⟩),.string s] w R:=by
 have o:k<L.length:=by
  by_cases b:k<L.length
  ·exact b
  ·exact absurd (f.symm.trans (G7 b)) g
 have j:=h.sm;replace c:=hd c;go_enter Tryz.func196,Tryz.ntmps196;go_wp2_with (fail);refine A03 _ h _ ?_;intro w1 b e;rw[f];have p:w1.cell? ⟨bp,1,none⟩=some (.int .i64 (k:Int)):=b.row.cell (i:=1) (by omega);have m:=b.row.frozen 1;have n:=b.row.lt;have t:(s.toList==s.toList)=true:=beq_self_eq_true _;have l:=hd (b.setAt (k':=k+1) (by omega));have q:IntKind.i64.wrap ((k:Int)+1)=(k:Int)+1:=z2 _ (by omega);replace b:=hd b;replace e:=hd e;clear f;go_wp2;exact A6 (c.out _ l.out ((A8.of_below e.out).setCell (a:=⟨bp,1,none⟩) (.inl rfl) _)) rfl
theorem A5u (w:WD){bp:Nat}{pv:VL}{L:LB}{k:Nat}{d:Int}{uv:VL}{bad:Bool}(h:Pa bp pv L k d uv bad w)(s:BA)(e:((A0 L k).toList==s.toList)=false)(R:RP)(a:∀w',Pa bp pv L k d uv bad w'→A8 bp w w'→R (.returned (.bool false)) w'):Calls Tryz.prog 196 #[.pointer (some ⟨bp,0,none⟩),.string s] w R:=by replace a:=hd a;go_enter Tryz.func196,Tryz.ntmps196;go_wp2_with (fail);refine A03 _ h _ ?_;intro w1 c b;replace c:=hd c;replace b:=hd b;go_wp2;exact A6 (a.out _ c.out (A8.of_below b.out)) rfl
theorem A77 (w:WD){bp:Nat}{pv:VL}{L:LB}{k:Nat}{d:Int}{uv:VL}{bad:Bool}(h:Pa bp pv L k d uv bad w)(s:BA)(e:A0 L k=s)(f:s≠⟨#[]⟩)(R:RP)(a:∀w',Pa bp pv L (k+1) d uv bad w'→A8 bp w w'→R (.returned (.tuple #[])) w'):Calls Tryz.prog 132 #[.pointer (some ⟨bp,0,none⟩),.string s] w R:=by replace a:=hd a;go_enter Tryz.func132,Tryz.ntmps132;go_wp2_with (fail);refine A4I _ h s e f _ ?_;intro w1 c b;replace c:=hd c;replace b:=hd b;go_wp2;go_end0;exact a.out _ c.out b.out
end
def U7 (f:Nat→Bool)(s:BA):Nat→Nat→Nat
 |0,i=>i
 |k+1,i=>if i<s.size∧f (bt s i)=true then U7 f s k (i+1) else i
theorem A22 {f:Nat→Bool}{s:BA}{i:Nat}(h:i<s.size)(a:f (bt s i)=true):U7 f s (s.size-i) i=U7 f s (s.size-(i+1)) (i+1):=by obtain⟨k,b⟩:∃k,s.size-i=k+1:=⟨s.size-i-1,by omega⟩;rw[b,show s.size-(i+1)=k by omega];simp[U7,h,a]
theorem A52 {f:Nat→Bool}{s:BA}{i k:Nat}(a:f (bt s i)=false):U7 f s k i=i:=by
 cases k with
 |zero=>rfl
 |succ k=>simp[U7,a]
theorem P1 (w:WD)(s:BA)(n:s.size≤maxLen)(F:FuncId)(f:Nat→Bool)(l:∀args w,(callFunc F args).run Tryz.prog w=.ok (.enter F args) w)(j:∀(w:WD) (c:Nat) (R:RP),R (.returned (.bool (f c))) w→Calls Tryz.prog F #[.int .u8 (c:Int)] w R)(R:RP)(a:R (.returned (.int .i64 (U7 f s s.size 0:Nat))) w):Calls Tryz.prog 191 #[.string s,.func (.func F) #[] #[]] w R:=by
 have d:∃X,U7 f s s.size 0=X:=⟨_,rfl⟩;obtain⟨X,d⟩:=d;rw[d] at a;replace d:=hd d;replace a:=hd a;replace j:=hd j;unfold maxLen at n;go_enter Tryz.func191,Tryz.ntmps191;go_wp2;go_loopw [5] (fun i wr=>∃k:Nat,k≤s.size∧i=.int .i64 k∧wr=w∧U7 f s (s.size-k) k=X) (fun i _=>s.size-(intOf i).toNat);case atStart=>exact⟨0,by omega,rfl,rfl,d.out⟩
 case round=>
  obtain⟨k,o,rfl,rfl,b⟩:=hrel;by_cases g:k<s.size
  ·have m:decide ((k:Int)<(s.size:Int))=true:=(by simp;omega);have q:=J4 s k g;have p:(0:Int)≤(k:Int)∧(k:Int)<(s.size:Int):=(by omega);cases h:f (bt s k)
   ·have e:=A52 (k:=s.size-k) h;replace b:=hd b;go_wp2_with (fail);refine j.out _ _ _ ?_;rw[h];go_wp2;exact A6 a.out (by rw[←b.out,e];rfl)
   ·have e:=A22 g h;replace b:=hd b;go_wp2_with (fail);refine j.out _ _ _ ?_;rw[h];go_wp2;exact⟨⟨k+1,by omega,by go_num,by first|rfl|trivial,by rw[←e];exact b.out⟩,by simp[intOf];omega⟩
  ·have m:decide ((k:Int)<(s.size:Int))=false:=(by simp;omega);have e:U7 f s (s.size-k) k=k:=(by rw[show s.size-k=0 by omega];rfl);replace b:=hd b;go_wp2;exact A6 a.out (by rw[←b.out,e];rfl)
def hpV (s p:BA):Bool:=decide (p.size≤s.size)&&((s.extract 0 p.size).toList==p.toList)
theorem A39 (w:WD)(s p:BA)(R:RP)(a:R (.returned (.bool (hpV s p))) w):Calls Tryz.prog 207 #[.string s,.string p] w R:=by
 unfold hpV at a;by_cases h:p.size≤s.size
 ·have t:decide ((p.size:Int)≤(s.size:Int))=true:=(by simp;omega);rw[show decide (p.size≤s.size)=true by simpa using h,Bool.true_and] at a;replace a:=hd a;go_enter Tryz.func207,Tryz.ntmps207;go_wp2;exact A6 a.out rfl
 ·have t:decide ((p.size:Int)≤(s.size:Int))=false:=(by simp;omega);rw[show decide (p.size≤s.size)=false by simpa using h,Bool.false_and] at a;replace a:=hd a;go_enter Tryz.func207,Tryz.ntmps207;go_wp2;exact A6 a.out rfl
theorem Q8 (w:WD)(s p:BA)(R:RP)(a:R (.returned (.bool (hpV s p))) w):Calls Tryz.prog 194 #[.string s,.string p] w R:=by replace a:=hd a;go_enter Tryz.func194,Tryz.ntmps194;go_wp2_with (fail);refine A39 _ s p _ ?_;go_wp2;exact A6 a.out rfl
theorem B0w (s:BA)(c:Nat)(w:WD):(callFunc 228 #[.string s,.int .u8 (c:Int)]).run Tryz.prog w=.ok (.value (.int .i64 (firstIdx s (c:Int).toNat.toUInt8))) w:=by rw[run_callFunc_extern Tryz.func228 (by kernel_rfl) (by kernel_rfl) (by kernel_rfl) (e:=Extern.BytealgIndexByte.indexByte) (by kernel_rfl),run_indexByte_string];rfl
theorem A4s (w:WD)(s:BA)(c:Nat)(R:RP)(a:R (.returned (.int .i64 (firstIdx s (c:Int).toNat.toUInt8))) w):Calls Tryz.prog 219 #[.string s,.int .u8 (c:Int)] w R:=by replace a:=hd a;have h:=B0w s c w;generalize firstIdx s (c:Int).toNat.toUInt8=r at*;go_enter Tryz.func219,Tryz.ntmps219;go_wp2;exact A6 a.out rfl
theorem Q7 (w:WD)(s:BA)(c:Nat)(R:RP)(a:R (.returned (.int .i64 (firstIdx s (c:Int).toNat.toUInt8))) w):Calls Tryz.prog 195 #[.string s,.int .u8 (c:Int)] w R:=by replace a:=hd a;go_enter Tryz.func195,Tryz.ntmps195;go_wp2_with (fail);refine A4s _ s c _ ?_;go_wp2;exact A6 a.out rfl
def A2Q:BA:=⟨#[58,59,44,40,41,91,93,43,45,42,47,61,60]⟩
def A7l (c:Nat):Bool:=decide (0≤firstIdx A2Q (UInt8.ofNat c))
def A1j:BA:=⟨#[58,61]⟩
def flV (s:BA):Nat:=if A0e (bt s 0) then 1 else if I3 (bt s 0) then U7 Z3 s s.size 0 else if I4 (bt s 0) then U7 I4 s s.size 0 else if hpV s A1j then 2 else if A7l (bt s 0) then 1 else 0
theorem A11:∀(args:Array VL) (w:WD),(callFunc 192 args).run Tryz.prog w=.ok (.enter 192 args) w:=fun _ _=>by kernel_rfl
theorem B0N:∀(args:Array VL) (w:WD),(callFunc 193 args).run Tryz.prog w=.ok (.enter 193 args) w:=fun _ _=>by kernel_rfl
theorem A3R (w:WD)(s:BA)(g:s.size≤maxLen)(k:0<s.size)(R:RP)(b:R (.returned (.int .i64 (flV s:Nat))) w):Calls Tryz.prog 128 #[.string s] w R:=by
 have m:=J4 s 0 k;have l:(0:Int)<(s.size:Int):=(by omega);have i:=g;unfold maxLen at i;unfold flV at b;cases d:A0e (bt s 0)
 ·cases c:I3 (bt s 0)
  ·cases e:I4 (bt s 0)
   ·cases f:hpV s A1j
    ·cases h:A7l (bt s 0)
     ·have j:decide (0≤firstIdx A2Q (UInt8.ofNat (bt s 0)))=false:=h;have a:=hd (show R (.returned (.int .i64 (0:Int))) w by simpa[d,c,e,f,h] using b);clear b;go_enter Tryz.func128,Tryz.ntmps128;go_wp2_with (first|(go_at_call 129;refine P8 _ _ _ ?_;rw[d])|(go_at_call 190;refine G3 _ _ _ ?_;rw[c])|(go_at_call 193;refine J6 _ _ _ ?_;rw[e])|(go_at_call 194;refine Q8 _ s A1j _ ?_;rw[f])|(go_at_call 195;refine Q7 _ A2Q _ _ ?_)|(go_at_call 191;refine P1 _ s g _ Z3 A11 X0 _ ?_));exact A6 a.out rfl
     ·have j:decide (0≤firstIdx A2Q (UInt8.ofNat (bt s 0)))=true:=h;have a:=hd (show R (.returned (.int .i64 (1:Int))) w by simpa[d,c,e,f,h] using b);clear b;go_enter Tryz.func128,Tryz.ntmps128;go_wp2_with (first|(go_at_call 129;refine P8 _ _ _ ?_;rw[d])|(go_at_call 190;refine G3 _ _ _ ?_;rw[c])|(go_at_call 193;refine J6 _ _ _ ?_;rw[e])|(go_at_call 194;refine Q8 _ s A1j _ ?_;rw[f])|(go_at_call 195;refine Q7 _ A2Q _ _ ?_)|(go_at_call 191;refine P1 _ s g _ Z3 A11 X0 _ ?_));exact A6 a.out rfl
    ·have h:=f;have a:=hd (show R (.returned (.int .i64 (2:Int))) w by simpa[d,c,e,f] using b);clear b;go_enter Tryz.func128,Tryz.ntmps128;go_wp2_with (first|(go_at_call 129;refine P8 _ _ _ ?_;rw[d])|(go_at_call 190;refine G3 _ _ _ ?_;rw[c])|(go_at_call 193;refine J6 _ _ _ ?_;rw[e])|(go_at_call 194;refine Q8 _ s A1j _ ?_;rw[f])|(go_at_call 195;refine Q7 _ A2Q _ _ ?_)|(go_at_call 191;refine P1 _ s g _ Z3 A11 X0 _ ?_));exact A6 a.out rfl
   ·have f:=e;have a:=hd (show R (.returned (.int .i64 ((U7 I4 s s.size 0:Nat):Int))) w by simpa[d,c,e] using b);clear b;go_enter Tryz.func128,Tryz.ntmps128;go_wp2_with (first|(go_at_call 129;refine P8 _ _ _ ?_;rw[d])|(go_at_call 190;refine G3 _ _ _ ?_;rw[c])|(go_at_call 193;refine J6 _ _ _ ?_;rw[e])|(go_at_call 194;refine Q8 _ s A1j _ ?_;rw[f])|(go_at_call 195;refine Q7 _ A2Q _ _ ?_)|(go_at_call 191;refine P1 _ s g _ I4 B0N J6 _ ?_));exact A6 a.out rfl
  ·have e:=c;have a:=hd (show R (.returned (.int .i64 ((U7 Z3 s s.size 0:Nat):Int))) w by simpa[d,c] using b);clear b;go_enter Tryz.func128,Tryz.ntmps128;go_wp2_with (first|(go_at_call 129;refine P8 _ _ _ ?_;rw[d])|(go_at_call 190;refine G3 _ _ _ ?_;rw[c])|(go_at_call 193;refine J6 _ _ _ ?_;rw[e])|(go_at_call 194;refine Q8 _ s A1j _ ?_;rw[f])|(go_at_call 195;refine Q7 _ A2Q _ _ ?_)|(go_at_call 191;refine P1 _ s g _ Z3 A11 X0 _ ?_));exact A6 a.out rfl
 ·have c:=d;have a:=hd (show R (.returned (.int .i64 (1:Int))) w by simpa[d] using b);clear b;go_enter Tryz.func128,Tryz.ntmps128;go_wp2_with (first|(go_at_call 129;refine P8 _ _ _ ?_;rw[d])|(go_at_call 190;refine G3 _ _ _ ?_;rw[c])|(go_at_call 193;refine J6 _ _ _ ?_;rw[e])|(go_at_call 194;refine Q8 _ s A1j _ ?_;rw[f])|(go_at_call 195;refine Q7 _ A2Q _ _ ?_)|(go_at_call 191;refine P1 _ s g _ Z3 A11 X0 _ ?_));exact A6 a.out rfl
theorem A6b {f:Nat→Bool}{s:BA}:∀(k i:Nat),i≤s.size→U7 f s k i≤s.size
 |0,i,h=>h
 |k+1,i,h=>by
  simp only[U7];split
  ·exact A6b k (i+1) (by omega)
  ·exact h
theorem A6f {s:BA}(h:0<s.size):flV s≤s.size:=by
 unfold flV;split
 ·omega
 ·split
  ·exact A6b _ _ (by omega)
  ·split
   ·exact A6b _ _ (by omega)
   ·split
    ·rename_i a;simp only[hpV,Bool.and_eq_true,decide_eq_true_eq] at a;exact a.1
    ·split<;>omega
def spF:Nat→BA→Option (LB)
 |0,_=>some []
 |k+1,s=>if s.size=0 then some [] else if flV s=0 then none else (spF k (s.extract (flV s) s.size)).map (fun r=>if A0e (bt s 0) then r else s.extract 0 (flV s)::r)
def N6 (l:LB):List VL:=l.map (fun s=>Value.string s)
theorem A0t:(Tryz.prog.info? 9).map (fun i=>(i.zero,i.size,i.bytes))=some (some (.string ⟨#[]⟩),1,16):=by kernel_rfl
theorem A2H:Tryz.prog.underlying 81=some (.slice 9):=by kernel_rfl
theorem A3r (s:BA):∀u∈[Value.string s],u.oneCell'=true:=by intro u a;simp only[List.mem_cons,List.not_mem_nil,or_false] at a;subst a;rfl
theorem A7 {w:WD}{b e a:Nat}{v:VL}{n:Nat}{xs:List VL}(h:w.ownsRow b e a v n xs):∃c cap,v=.slice c n cap:=by
 rcases h.2 with ⟨rfl,rfl⟩|⟨g,cap,cur,rfl,_⟩
 ·exact⟨none,0,rfl⟩
 ·exact⟨_,cap,rfl⟩
theorem B0V {t:BA}(h:t.size=0):t.toList=[]:=by rw[ByteArray.toList_eq];have:t.data.size=0:=h;rw[Array.eq_empty_of_size_eq_zero this]
theorem B1J {t:BA}(h:¬t.size=0):t.toList≠[]:=by rw[ByteArray.toList_eq];intro e;have:t.data.toList.length=t.size:=(by simp);rw[e] at this;exact h this.symm
theorem A6s {t:BA}(h:t.size=0):(t.toList==([]:List UInt8))=true:=by rw[B0V h];rfl
theorem A1o {t:BA}(h:¬t.size=0):(t.toList==([]:List UInt8))=false:=beq_eq_false_iff_ne.2 (B1J h)
theorem A8j (w:WD)(s:BA)(G:s.size≤1000000)(R:RP)(j:spF s.size s=none→∀w',Below w.heap.size w w'→R (.returned (.tuple #[.slice none 0 0,.bool false])) w')(d:∀l,spF s.size s=some l→l.length≤1000000→∀v w',Below w.heap.size w w'→w'.ownsRow w.heap.size 9 1 v l.length (N6 l)→R (.returned (.tuple #[v,.bool true])) w'):Calls Tryz.prog 67 #[.string s] w R:=by
 have p:∃X,spF s.size s=X:=⟨_,rfl⟩;obtain⟨X,p⟩:=p;rw[p] at j d;replace p:=hd p;replace j:=hd j;replace d:=hd d;go_enter Tryz.func67,Tryz.ntmps67;go_wp2;go_loopw [0,4] (fun x pv wr=>∃(t:BA) (acc:LB) (f:Nat),x=.string t∧t.size≤f∧acc.length+t.size≤1000000∧wr.ownsRow w.heap.size 9 1 pv acc.length (N6 acc)∧Below w.heap.size w wr∧X=(spF f t).map (acc++·)) (fun x _ _=>match x with | .string t=>t.size|_=>0);case atStart=>exact⟨s,[],s.size,rfl,Nat.le_refl _,by simpa using G,World.ownsRow_nil _ _ _ _,Below.refl _ _,by rw[p.out];cases X<;>simp⟩
 case round=>
  rename_i u0 u4;obtain⟨t,acc,f,rfl,L,B,b,a,m⟩:=hrel;obtain⟨P,O,rfl⟩:=A7 b;by_cases q:t.size=0
  ·have E:=A6s q;have e:spF f t=some []:=by cases f with
    |zero=>rfl
    |succ f=>simp[spF,q]
   rw[e] at m;replace m:=hd m;replace b:=hd b;replace a:=hd a;go_wp2;exact A6 (d.out acc (by rw[m.out];simp) (by omega) _ _ a.out b.out) rfl
  ·have E:=A1o q;have h:0<t.size:=(by omega);have z:t.size≤maxLen:=(by unfold maxLen;omega);obtain⟨k,rfl⟩:∃k,f=k+1:=⟨f-1,by omega⟩;have D:=A6f h;have A:=a.size;replace m:=hd m;replace b:=hd b;replace a:=hd a;go_wp2_with (fail);refine A3R _ t z h _ ?_;by_cases u:flV t=0
   ·have e:spF (k+1) t=none:=(by simp[spF,q,u]);have y:X=none:=(by rw[m.out,e];rfl);have J:((flV t:Int)==0)=true:=(by simp[u]);go_wp2;exact A6 (j.out y _ a.out) rfl
   ·have J:((flV t:Int)==0)=false:=beq_eq_false_iff_ne.2 (by omega);have Q:=J4 t 0 h;have M:(0:Int)<(t.size:Int):=(by omega);have H:(t.extract (flV t) t.size).size=t.size-flV t:=(by rw[ByteArray.size_extract];omega);have S:(0:Int)≤(flV t:Int)∧(flV t:Int)≤(t.size:Int):=(by omega);cases i:A0e (bt t 0)
    ·have e:spF (k+1) t=(spF k (t.extract (flV t) t.size)).map (fun r=>t.extract 0 (flV t)::r):=(by simp[spF,q,u,i]);have o:=hd (m.out.trans (by rw[e]));have C:(t.extract 0 (flV t)).size=flV t:=(by rw[ByteArray.size_extract];omega);generalize flV t=n at*;go_wp2_with (first|(go_at_call 129;refine P8 _ _ _ ?_;rw[i])|(at_builtin;refine C3 _ rfl _ _ 81 rfl w.heap.size 9 _ 1 16 A2H A0t rfl (by decide) _ _ _ rfl (by exact b.out.alloc _) _ 1 1 [.string (t.extract 0 n)] rfl (by exact A9 (by simp)) rfl (A3r _) (by unfold maxLen;omega) (by omega) (by simp;omega) ?_;intro N w1 c g;obtain⟨F,K,rfl⟩:=A7 c;replace c:=hd c;replace g:=hd g));refine⟨⟨t.extract n t.size,acc++[t.extract 0 n],k,rfl,by omega,by simp;omega,?_,?_,?_⟩,by show (t.extract n t.size).size<t.size;omega⟩
     ·have:=c.out;rw[List.length_append];simpa[N6] using this
     ·exact (a.out.alloc A _).grown g.out (by simp;omega) (fun k I=>(b.out.lt k I).1)
     ·rw[o.out];cases spF k (t.extract n t.size)<;>simp
    ·have e:spF (k+1) t=spF k (t.extract (flV t) t.size):=(by simp[spF,q,u,i]);have o:=hd (m.out.trans (by rw[e]));generalize flV t=n at*;go_wp2_with (first|(go_at_call 129;refine P8 _ _ _ ?_;rw[i]));exact⟨⟨t.extract n t.size,acc,k,rfl,by omega,by omega,b.out,a.out,o.out⟩,by show (t.extract n t.size).size<t.size;omega⟩
theorem A63 (w:WD)(s:BA)(j:s.size≤maxLen)(e:∀i,i<s.size→bt s i<128∧¬(65≤bt s i∧bt s i≤90))(R:RP)(c:R (.returned (.string s)) w):Calls Tryz.prog 229 #[.string s] w R:=by
 unfold maxLen at j;replace c:=hd c;replace e:=hd e;go_enter Tryz.func229,Tryz.ntmps229;go_wp2;go_loopw [3,4,5] (fun a b i wr=>∃k:Nat,k≤s.size∧a=.bool true∧b=.bool false∧i=.int .i64 k∧wr=w) (fun _ _ i _=>s.size-(intOf i).toNat);case atStart=>exact⟨0,by omega,rfl,rfl,rfl,rfl⟩
 case round=>
  obtain⟨k,l,rfl,rfl,rfl,rfl⟩:=hrel;by_cases d:k<s.size
  ·have h:decide ((k:Int)<(s.size:Int))=true:=(by simp;omega);have o:=J4 s k d;have m:(0:Int)≤(k:Int)∧(k:Int)<(s.size:Int):=(by omega);obtain⟨q,r⟩:=e.out k d;have p:decide ((128:Int)≤(bt s k:Int))=false:=(by simp;omega);by_cases g:65≤bt s k
   ·have f:decide ((65:Int)≤(bt s k:Int))=true:=(by simp;omega);have n:decide ((bt s k:Int)≤90)=false:=(by simp;omega);go_wp2;exact⟨⟨k+1,by omega,rfl,by first|rfl|simp,by go_num,by first|rfl|trivial⟩,by simp[intOf];omega⟩
   ·have f:decide ((65:Int)≤(bt s k:Int))=false:=(by simp;omega);go_wp2;exact⟨⟨k+1,by omega,rfl,by first|rfl|simp,by go_num,by first|rfl|trivial⟩,by simp[intOf];omega⟩
  ·have h:decide ((k:Int)<(s.size:Int))=false:=(by simp;omega);go_wp2;exact A6 c.out rfl
theorem A4g (w:WD)(s:BA)(e:0<s.size)(b:s.size≤12)(d:I3 (bt s 0)=true)(c:∀i,i<s.size→bt s i<128∧¬(65≤bt s i∧bt s i≤90))(R:RP)(a:R (.returned (.bool true)) w):Calls Tryz.prog 221 #[.string s] w R:=by have g:=J4 s 0 e;have j:(0:Int)<(s.size:Int):=(by omega);have f:=A1o (t:=s) (by omega);have h:decide ((s.size:Int)≤12)=true:=(by simp;omega);have k:(s.toList==s.toList)=true:=beq_self_eq_true _;replace a:=hd a;go_enter Tryz.func221,Tryz.ntmps221;go_wp2_with (first|(go_at_call 190;refine G3 _ _ _ ?_;rw[d])|(go_at_call 229;refine A63 _ s (by unfold maxLen;omega) c _ ?_));exact A6 a.out (by first|rfl|simp)
theorem A2d (w:WD)(s:BA)(d:s.size=0∨I3 (bt s 0)=false)(R:RP)(a:R (.returned (.bool false)) w):Calls Tryz.prog 221 #[.string s] w R:=by
 replace a:=hd a;by_cases b:s.size=0
 ·have c:=A6s (t:=s) b;go_enter Tryz.func221,Tryz.ntmps221;go_wp2;exact A6 a.out rfl
 ·have c:=A1o (t:=s) b;have f:=J4 s 0 (by omega);have g:(0:Int)<(s.size:Int):=(by omega);have e:I3 (bt s 0)=false:=(by rcases d with h|h;exact absurd h b;exact h);go_enter Tryz.func221,Tryz.ntmps221;go_wp2_with (first|(go_at_call 190;refine G3 _ _ _ ?_;rw[e]));exact A6 a.out (by first|rfl|simp)
theorem A4B:∀(args:Array VL) (w:WD),(callFunc 221 args).run Tryz.prog w=.ok (.enter 221 args) w:=fun _ _=>by kernel_rfl
theorem Pa.setDep {bp:Nat}{pv:VL}{L:LB}{k:Nat}{d:Int}{uv:VL}{a:Bool}{w:WD}(h:Pa bp pv L k d uv a w)(d':Int):Pa bp pv L k d' uv a (w.setCell ⟨bp,2,none⟩ (.int .i64 d')):=h.set 2 _ h.le (fun i _=>by unfold paF;by_cases e:i=2<;>simp[e])
structure O9 (s:BA):Prop where
 pos:0<s.size
 le:s.size≤12
 first:I3 (bt s 0)=true
 low:∀i,i<s.size→bt s i<128∧¬(65≤bt s i∧bt s i≤90)
theorem A68 (w:WD){bp:Nat}{pv:VL}{L:LB}{k:Nat}{d:Int}{uv:VL}{g:Bool}(h:Pa bp pv L k d uv g w)(f:O9 (A0 L k))(R:RP)(c:∀w',Pa bp pv L (k+1) d uv g w'→A8 bp w w'→R (.returned (.string (A0 L k))) w'):Calls Tryz.prog 197 #[.pointer (some ⟨bp,0,none⟩)] w R:=by
 have p:k<L.length:=by
  by_cases b:k<L.length
  ·exact b
  ·have:=f.pos;rw[G7 b] at this;exact absurd this (by decide)
 have l:=h.sm;have j:=A4B;replace c:=hd c;go_enter Tryz.func197,Tryz.ntmps197;go_wp2_with (fail);go_enter Tryz.func220,Tryz.ntmps220;go_wp2_with (fail);refine A03 _ h _ ?_;intro w1 b e;have q:w1.cell? ⟨bp,1,none⟩=some (.int .i64 (k:Int)):=b.row.cell (i:=1) (by omega);have n:=b.row.frozen 1;have o:=b.row.lt;have m:=hd (b.setAt (k':=k+1) (by omega));have r:IntKind.i64.wrap ((k:Int)+1)=(k:Int)+1:=z2 _ (by omega);replace b:=hd b;replace e:=hd e;generalize A0 L k=s at*;go_wp2_with (fail);refine A4g _ s f.pos f.le f.first f.low _ ?_;go_wp2;exact A6 (c.out _ m.out ((A8.of_below e.out).setCell (a:=⟨bp,1,none⟩) (.inl rfl) _)) rfl
theorem B2Q (w:WD){bp:Nat}{pv:VL}{L:LB}{k:Nat}{d:Int}{uv:VL}{c:Bool}(h:Pa bp pv L k d uv c w)(e:0≤d∧d≤9)(R:RP)(b:∀w',Pa bp pv L k (d+1) uv c w'→A8 bp w w'→R (.returned (.tuple #[])) w'):Calls Tryz.prog 234 #[.pointer (some ⟨bp,0,none⟩)] w R:=by have l:w.cell? ⟨bp,2,none⟩=some (.int .i64 d):=h.row.cell (i:=2) (by omega);have m:=h.row.frozen 2;have g:=h.row.lt;have f:=hd (h.setDep (d+1));have j:IntKind.i64.wrap (d+1)=d+1:=z2 _ (by omega);have t:decide (10<d+1)=false:=(by simp;omega);replace b:=hd b;clear h;go_enter Tryz.func234,Tryz.ntmps234;go_wp2;go_end0;exact b.out _ f.out ((A8.refl _ _).setCell (a:=⟨bp,2,none⟩) (.inl rfl) _)
def wIN:BA:=⟨#[73,78]⟩
def A5X:BA:=⟨#[79,85,84]⟩
def A8h:BA:=⟨#[86,65,82]⟩
theorem A8.step {b:Nat}{w w1 a:WD}(h:A8 b w w1)(c:A8 b w1 a):A8 b w a:=h.trans c
section
def wLP:BA:=⟨#[40]⟩
def wRP:BA:=⟨#[41]⟩
def wLB:BA:=⟨#[91]⟩
def wRB:BA:=⟨#[93]⟩
def wCM:BA:=⟨#[44]⟩
def wSC:BA:=⟨#[59]⟩
def wCO:BA:=⟨#[58]⟩
def wAS:BA:=⟨#[58,61]⟩
def wMI:BA:=⟨#[45]⟩
def A1K:BA:=⟨#[78,79,84]⟩
def R4:BA:=⟨#[83,72,79,82,84]⟩
def A3u:BA:=⟨#[84,79,78]⟩
def V5:BA:=⟨#[84,82,85,69]⟩
def Q0:BA:=⟨#[70,65,76,83,69]⟩
def wIF:BA:=⟨#[73,70]⟩
def J5:BA:=⟨#[67,65,83,69]⟩
def X3:BA:=⟨#[70,79,82]⟩
def K5:BA:=⟨#[69,78,68]⟩
def A1A:BA:=⟨#[69,76,83,69]⟩
def A1B:BA:=⟨#[84,72,69,78]⟩
def wOF:BA:=⟨#[79,70]⟩
def A1D:BA:=⟨#[87,72,69,78]⟩
def wTO:BA:=⟨#[84,79]⟩
def wDO:BA:=⟨#[68,79]⟩
def P2:BA:=⟨#[66,69,71,73,78]⟩
def N8:BA:=⟨#[84,73,77,69,82]⟩
def R3:BA:=⟨#[65,82,82,65,89]⟩
def A1E:BA:=⟨#[66,79,79,76]⟩
def A4l:BA:=⟨#[73,78,84]⟩
def A1b:BA:=⟨#[68,73,78,84]⟩
def P6:Nat→BA
 |0=>⟨#[43]⟩|1=>⟨#[45]⟩|2=>⟨#[42]⟩|3=>⟨#[47]⟩|4=>⟨#[77,79,68]⟩|5=>⟨#[61]⟩|6=>⟨#[60]⟩|7=>⟨#[65,78,68]⟩|_=>⟨#[79,82]⟩
def opF:Nat→Nat
 |0=>0|1=>0|2=>0|3=>0|4=>0|5=>1|6=>2|7=>3|_=>3
def opI:Nat→Nat
 |0=>6|1=>7|2=>8|3=>9|4=>10|5=>11|6=>12|7=>14|_=>15
inductive Ex where
 |lit (n:Int)
 |tru (b:Bool)
 |plc (s:BA)
 |idx (s:BA) (i:Ex)
 |bin (o:Nat) (l r:Ex)
 |neg (e:Ex)
 |sho (e:Ex)
 |dly (t:BA) (c a:Ex)
structure Fu (bp:Nat)(u u':VL)(w w':WD):Prop where
 os:w'.os=w.os
 tape:w'.tape=w.tape
 output:w'.output=w.output
 size:w.heap.size≤w'.heap.size
 block:∀k,k<w.heap.size→k≠bp→u.ownBlock≠some k→w'.heap[k]? =w.heap[k]?
 own:u'.ownBlock=u.ownBlock∨∃k,u'.ownBlock=some k∧w.heap.size≤k
section
variable {bp:Nat}{u u' u'':VL}{w w' w'':WD}
theorem Fu.refl (bp:Nat)(u:VL)(w:WD):Fu bp u u w w:=⟨rfl,rfl,rfl,Nat.le_refl _,fun _ _ _ _=>rfl,.inl rfl⟩
theorem Fu.notold (h:Fu bp u u' w w'){k:Nat}(c:k<w.heap.size)(b:u.ownBlock≠some k):u'.ownBlock≠some k:=by
 intro e;rcases h.own with a|⟨m,a,d⟩
 ·exact b (a.symm.trans e)
 ·rw[a] at e;injection e with e;omega
theorem Fu.trans (h:Fu bp u u' w w')(k:Fu bp u' u'' w' w''):Fu bp u u'' w w'':=by
 refine⟨k.os.trans h.os,k.tape.trans h.tape,k.output.trans h.output,Nat.le_trans h.size k.size,fun i hi d c=>?_,?_⟩
 ·exact (k.block i (Nat.lt_of_lt_of_le hi h.size) d (h.notold hi c)).trans (h.block i hi d c)
 ·rcases k.own with e|⟨m,e,a⟩
  ·rcases h.own with b|⟨m,b,a⟩
   ·exact .inl (e.trans b)
   ·exact .inr ⟨m,e.trans b,a⟩
  ·exact .inr ⟨m,e,Nat.le_trans h.size a⟩
theorem Fu.of_only (h:A8 bp w w'):Fu bp u u w w':=⟨h.os,h.tape,h.output,h.size,fun k a b _=>h.block k a b,.inl rfl⟩
theorem Fu.of_below (h:Below w.heap.size w w'):Fu bp u u w w':=⟨h.os,h.tape,h.output,h.size,fun k a _ _=>h.block k a,.inl rfl⟩
end
end
end Go.Proofs.YtidhiaaicmfabaaGreatDoor
