/- Texts (its parts, joined). -/
import Derived.Test.YtidhiaaicmfabaaGreatDoorTqAJ
import Derived.Test.YtidhiaaicmfabaaGreatDoorShelfC
namespace Go.Proofs.YtidhiaaicmfabaaGreatDoor
open Go.RowKit Go.Proofs Go.Deep
set_option maxRecDepth 100000
set_option maxHeartbeats 4000000
theorem A2z:∀(args:Array VL) (w:WD),(callFunc 223 args).run Tryz.prog w=.ok (.enter 223 args) w:=fun _ _=>by kernel_rfl
theorem A8d (w:WD){bp:Nat}{pv:VL}{L:LB}{k:Nat}{d:Int}{uv:VL}{f:Bool}(h:Pa bp pv L k d uv f w)(q:k<L.length)(n:(A0 L k).size≠0)(j:I4 (bt (A0 L k) 0)=true)(R:RP)(b:∀w',Pa bp pv L (k+1) d uv f w'→A8 bp w w'→R (.returned (.string (A0 L k))) w'):Calls Tryz.prog 220 #[.pointer (some ⟨bp,0,none⟩),.func (.func 223) #[] #[]] w R:=by have l:=h.sm;have g:=A2z;replace b:=hd b;go_enter Tryz.func220,Tryz.ntmps220;go_wp2_with (fail);refine A03 _ h _ ?_;intro w1 e c;have r:w1.cell? ⟨bp,1,none⟩=some (.int .i64 (k:Int)):=e.row.cell (i:=1) (by omega);have o:=e.row.frozen 1;have p:=e.row.lt;have m:=hd (e.setAt (k':=k+1) (by omega));have t:IntKind.i64.wrap ((k:Int)+1)=(k:Int)+1:=IntWalk.i64_in _ (by omega);replace e:=hd e;replace c:=hd c;generalize A0 L k=s at*;go_wp2_with (fail);refine A2Z _ s n j _ ?_;go_wp2;exact A6 (b.out _ m.out ((A8.of_below c.out).setCell (a:=⟨bp,1,none⟩) (.inl rfl) _)) rfl
theorem A7M {w w':WD}(h:w'=w∨∃t,w'=Lib.bytesWorld w 5 t):Below w.heap.size w w':=by
 rcases h with rfl|⟨t,rfl⟩
 ·exact Below.refl _ _
 ·exact⟨rfl,rfl,rfl,by rw[Lib.bytesWorld_size];omega,fun j a=>Lib.bytesWorld_at_old w 5 t j a⟩
end Go.Proofs.YtidhiaaicmfabaaGreatDoor
