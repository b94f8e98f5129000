/- Texts (its parts, joined). -/
import Derived.Test.YtidhiaaicmfabaaGreatDoorTqAZ
import Derived.Test.YtidhiaaicmfabaaGreatDoorTqAS
namespace Go.Proofs.YtidhiaaicmfabaaGreatDoor
open Go.RowKit Go.Proofs Go.Deep
set_option maxRecDepth 100000
set_option maxHeartbeats 4000000
theorem A4z:∀a b:Wl,O3 (a.app b)=O3 a++O3 b
 |.nil,_=>rfl
 |.cons ns h t,b=>by simp only[Wl.app,O3,A4z t b,List.append_assoc]
theorem A3D:∀w:Wl,0≤A1T w
 |.nil=>Int.le_refl _
 |.cons _ _ t=>by have:=A3D t;simp only[A1T];omega
theorem O5.hole {kk:Ex→Int}{w:WD}{g g':Option Nat}:∀{l:Wl}{lo hi:Nat}{xs:List VL},O5 kk g l lo hi w xs→Off g' lo hi→O5 kk g' l lo hi w xs
 |.nil,_,_,_,h,_=>h
 |.cons _ _ _,_,_,_,⟨vn,vb,ys,a,m1,c,m,e1,h1,h2,h3,h4,h5,h6,h7,h8,h9⟩,k=>⟨vn,vb,ys,a,m1,c,m,e1,h1,h2,h3,h4,h5,fun x e=>by have:=k x e;omega,h7,h8,h9.hole (fun x e=>by have:=k x e;omega)⟩
theorem B37:Tryz.prog.underlying 312=some (.slice 317):=by kernel_rfl
theorem B1Y:(Tryz.prog.info? 317).map (fun i=>(i.zero,i.size,i.bytes))=some (some (.agg #[.slice none 0 0,.slice none 0 0]),2,48):=by kernel_rfl
theorem B8R (a b:Option Addr)(m n c d:Nat):∀x∈[Value.slice a m c,Value.slice b n d],x.oneCell'=true:=by intro x e;simp only[List.mem_cons,List.not_mem_nil,or_false] at e;rcases e with rfl|rfl<;>rfl
def nrm (Q:Exit→Act→WD→Prop):Exit→Act→WD→Prop:=fun e a w=>match e with
 |.normal=>Q .normal a w
 |_=>False
theorem B5I {P:Program}{c:Code}{Q:Exit→Act→WD→Prop}{a:Act}{w:WD}(h:c.wp P (nrm Q) a w):c.wp P Q a w:=wp_mono h (fun e _ _ b=>by cases e<;>first|exact b|exact False.elim b)
end Go.Proofs.YtidhiaaicmfabaaGreatDoor
