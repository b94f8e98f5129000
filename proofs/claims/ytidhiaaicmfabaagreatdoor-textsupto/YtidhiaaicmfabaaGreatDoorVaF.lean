/- Texts (its parts, joined). -/
import Derived.Test.YtidhiaaicmfabaaGreatDoorTqBY
import Derived.Test.YtidhiaaicmfabaaGreatDoorTqAY
import Derived.JoinedCond
import Derived.ChangeMaps5
import Derived.Carry
namespace Go.Proofs.YtidhiaaicmfabaaGreatDoor
open Go.RowKit Go.Proofs Go.Deep
set_option maxRecDepth 100000
set_option maxHeartbeats 4000000
open Go.ChangeShapes Go.WideShapes Go.ChangeAt Go.ChangeMaps
theorem B0v (I:Os)(c:I.Started)(H:Type)(f:TypeId×VL→H)(F:Stop.Interp):ReturnsInHanded {} Tryz.checked I 3 .any (Rows.textsUptoRow.pre f Tryz.prog Tryz.f3 (Rows.OpenSpec.upto Rows.textsSpec)) (((Rows.OpenSpec.upto Rows.textsSpec).at F).post f Tryz.prog Tryz.f3 false true false false):=by
 have n:∀w:WD,laidMet Tryz.prog Rows.textsUptoRow.laid w→laidMetH Tryz.prog Rows.textsUptoRow.laid w:=fun w h=>by rw[MakeChecks.laidMetH_plain _ _ _ (by kernel_rfl)];exact h
 refine returnsInHanded_of_calls B05 c (by kernel_rfl) ⟨World.laidAll Tryz.prog I Rows.textsUptoRow.laid,fun _ _=>0,⟨#[],#[.string ⟨#[]⟩],[]⟩,World.laidAll_os _ _ _,
  World.shaped_of_ZipB (by kernel_rfl) (by kernel_rfl),rfl,(Input.okWide_of_okWideB (by kernel_rfl)).2,
  ⟨⟨(OpenSpec.pre_some (k:=Rows.uptoSmall) rfl [] false _ _).2 ⟨[.lit (.string [])],[],[],DataW.Whole_of_whole (fuel:=8) (x:=([.lit (.string [])],[],[])) (by kernel_rfl),rfl,by kernel_rfl⟩,n _ (laidMet_laidAll _ (by kernel_rfl) (by kernel_rfl))⟩,sizedMet_of_sizedB (fuel:=8) (by kernel_rfl)⟩,by
   simp only[Assume.holds];refine⟨?_,?_,?_,?_,?_⟩<;>simp⟩ ?_
 intro w a i _ _ _ E d y;obtain⟨_,_,_,B,o,_,_,_,_,l⟩:=E;obtain rfl:B=Tryz.f3:=Option.some.inj (o.symm.trans Tryz.func3);obtain⟨⟨d,M⟩,_⟩:=d;obtain⟨S,X,z,G,_,R⟩:=(OpenSpec.pre_some (k:=Rows.uptoSmall) rfl [] false _ _).1 d;have K:=DataW.Whole.of_heap (w':=w.forCall a i) (by rfl) G;have g:laidMetH Tryz.prog Rows.textsUptoRow.laid (w.forCall a i):=M.of_heap (by rfl);generalize w.forCall a i=W at*;have b:∀(j:Nat) t v,Tryz.f3.params[j]? =some t→i.args[j]? =some v→Value.okWide Tryz.prog W .any w.heap.size t v:=l;have u:=K;obtain⟨p,q,A,N,rfl,_,_⟩:=K;have L:DataW.TrodAll f Tryz.prog W 0 (fun _=>true) true Tryz.f3.params.toList i.args.toList S p:=A;rw[Tryz.params3] at L b;obtain⟨V,Y,m,rfl,T⟩:=trodAll_one L;rw[m] at u b ⊢;obtain⟨rfl,rfl⟩:=trodVars_none N;obtain⟨s,rfl,rfl,rfl,O⟩:=open_string Tryz.underlying9 (b 0 9 V rfl rfl) T;rw[MakeChecks.laidMetH_plain _ _ _ (by kernel_rfl)] at g;have r:=B0G g (.tail _ (.tail _ (.tail _ (.tail _ (.tail _ (.tail _ (.head _)))))));have D:Er 0 W:=⟨A88 g (.tail _ (.tail _ (.tail _ (.tail _ (.tail _ (.head _)))))) B94 B8J,A88 g (.tail _ (.tail _ (.tail _ (.tail _ (.head _))))) C0t B9G,by decide,by decide⟩;have J:Rows.uptoBulkAll [(DataW.lit (.string s.data.toList):DataW H)]≤1048576:=(by simpa[Rows.uptoSmall] using R);have P:s.size≤2000000:=(by simp only[Rows.uptoBulkAll,Rows.uptoBulk,Array.length_toList] at J;have:s.size=s.data.size:=rfl;omega);have U:Calls Tryz.prog 3 #[.string s] W fun e C=>∃v,e=.returned v∧((Rows.OpenSpec.upto Rows.textsSpec).at F).post f Tryz.prog Tryz.f3 false true false false W #[.string s] v C:=(by refine B07 W r D s P _ fun C hB=>?_;exact⟨_,rfl,_,_,_,[],[],[],u,trodAll_mk1 (shut_bool Tryz.underlying4 _),trodAll_mk1 (shut_string Tryz.underlying9 O),rfl,hB.frame _,fun h=>by cases h⟩);refine U.mono fun e C ⟨v,D,Q⟩=>?_;subst D;exact ChangeSpec.post_blind Q
end Go.Proofs.YtidhiaaicmfabaaGreatDoor
