/- Texts (its parts, joined). -/
import Derived.Test.YtidhiaaicmfabaaGreatDoorTqAX
open Option renaming bind_some→z0
open Nat renaming le_refl→z4
namespace Go.Proofs.YtidhiaaicmfabaaGreatDoor
open Go.RowKit Go.Proofs Go.Deep
set_option maxRecDepth 100000
set_option maxHeartbeats 4000000
open World renaming size_setCell→z5
open Below renaming heap_setCell→z6
def pPr (L:LB)(f k d:Nat):Option (Ex×Nat):=
 if d<10 then (pE L f k (d+1)).bind (fun p=>(opP L p.2).bind (fun o=>(pE L f (p.2+1) (d+1)).bind (fun q=>if B6 (A0 L q.2) wRP then some (.bin o p.1 q.1,q.2+1) else none))) else none
theorem B9n {L:LB}{f k:Nat}(hE:∀k,A05 L f k (fun d=>pE L f k d) 233):A05 L f k (fun d=>pPr L f k d) 249:=by
 intro w B bp pv d us uv h he hd10 hk R yes no;have hw0:=h.pa.row.lt;replace yes:=hd yes;replace no:=hd no;go_enter_defers Tryz.func249,Tryz.ntmps249;go_wp2_with (fail);refine A8G h (by omega) _ ?_ ?_
 ·intro hd9 w1 h1 g1;have C:d<10:=(by omega);have he1:=h.er he g1;have hz1:=g1.size;have hlt1:=h1.pa.row.lt;have K:((d:Int)+1)=((d+1:Nat):Int):=(by omega);rw[K] at h1;have F1:=hd g1;clear g1;go_wp2_with (fail);refine hE k h1 he1 (by omega) hk _ ?_ ?_
  ·intro l k1 D hkl N vl uv2 x g2 hx2;change pE L f k (d+1)=_ at D;obtain⟨tl,ul,rfl⟩:=hx2.iface;have he2:=h1.er he1 g2;rw[←K] at x;have F2:=hd (F1.out.trans g2);have hlt2:=x.pa.row.lt;have hz2:=g2.size;have m:=x.le;have p:bp≠N.heap.size:=(by omega);clear g2 F1 h1;go_wp2_with (fail);refine gOp (x.alloc _) _ ?_ ?_
   ·intro o V ho w3 G A;have e:=(x.alloc _).apart A2 (by decide) p A;have hz3:=A.size;rw[World.size_alloc] at hz3;have hx3:=hd (A.exIn (x.alloc _) (hx2.keep (fun b cur _ hb hc=>Below.heap_alloc _ _ _ (by omega))) (show bp<w1.heap.size by omega));have F3:=hd (F2.out.trans ((Fu.of_below ((Below.refl _ N).alloc (z4 _) _)).trans A));clear A F2 hx2;have a2:=A1 (i:=2) e rfl;have a3:=A1 (i:=3) e rfl;have a4:=A1 (i:=4) e rfl;have fz:=fun i=>B2 (i:=i) e;generalize Y:N.heap.size=b at*;replace Y:=hd Y;have u:=hd (A4 (i:=4) (A4 (i:=3) (A4 (i:=2) e (.string (P6 o))) (.int .u8 (opF o))) (.int .u8 (opI o)));have v:=hd (((G.setNew e (by decide) m 2 (.string (P6 o))).setNew (A4 e _) (by decide) m 3 (.int .u8 (opF o))).setNew (A4 (A4 e _) _) (by decide) m 4 (.int .u8 (opI o)));have I:=hd (((F3.out.setNew (show w.heap.size≤b by omega) 2 (.string (P6 o))).setNew (show w.heap.size≤b by omega) 3 (.int .u8 (opF o))).setNew (show w.heap.size≤b by omega) 4 (.int .u8 (opI o)));have he4:=h.er he I.out;replace G:=hd G;replace e:=hd e;rw[K] at v;go_wp2_with (fail);refine hE (k1+1) v.out he4 (by omega) (by omega) _ ?_ ?_
    ·intro r k2 M hkr w5 vr uv5 F q hx5;change pE L f (k1+1) (d+1)=_ at M;obtain⟨tr,z,rfl⟩:=hx5.iface;rw[←K] at F;have g:=v.out.apart u.out (by decide) p q;have hz5:=q.size;simp only[z5] at hz5 hx5;have hx4:E9 (fun _=>0) l w1.heap.size b (((w3.setCell ⟨b,2,none⟩ (Value.string (P6 o))).setCell ⟨b,3,none⟩ (Value.int .u8 (opF o))).setCell ⟨b,4,none⟩ (Value.int .u8 (opI o))) (.iface tl ul):=
      hx3.out.keep (fun c cur _ hc _=>((z6 _ _ _ _ (show c≠b by omega)).trans (z6 _ _ _ _ (show c≠b by omega))).trans (z6 _ _ _ _ (show c≠b by omega)))
     have hxl:=q.exIn v.out hx4 (by omega);have J:=hd (I.out.trans q);have a1:=A1 (i:=1) g rfl;have f1:=B2 (i:=1) g;have hb6:=hd (A4 (i:=1) g (.iface tr z));have y:=hd (F.setNew g (by decide) m 1 (.iface tr z));have E:=hd (J.out.setNew (show w.heap.size≤b by omega) 1 (.iface tr z));have S:=hd (hxl.keep (w':=w5.setCell ⟨b,1,none⟩ (.iface tr z)) (fun c cur _ hc _=>(z6 _ _ _ _ (show c≠b by omega))));have P:=hd ((hx5.wide (show b+1≤w3.heap.size by omega) (z4 _)).keep (w':=w5.setCell ⟨b,1,none⟩ (.iface tr z)) (fun c cur hc _ _=>(z6 _ _ _ _ (show c≠b by omega))));clear hx4 hxl hx5 hx3 q g F v u J I;go_wp2_with (fail);refine B68 (s:=wRP) y.out (by decide) _ ?_ ?_
     ·intro eR n j t;have O:=hd (yes.out (.bin o l r) (k2+1) (by show pPr L f k d=_;unfold pPr;rw[if_pos C,D];simp only[z0,V,M];unfold B6;rw[eR];exact if_pos (beq_self_eq_true _)) (by omega));have hb7:=y.out.apart hb6.out (by decide) p t;have T:=t.exIn y.out S.out (by omega);have Q:=t.exIn y.out P.out (by omega);have hz7:=t.size;rw[z5] at hz7;have Z:=hd (E.out.trans t);clear S P t hb6 y E;replace hb7:=hd hb7;replace T:=hd T;replace Q:=hd Q;have U:n.cell? ⟨bp,2,none⟩=some (.int .i64 ((d:Int)+1)):=j.pa.row.cell (i:=2) (by omega);have X:=j.pa.row.frozen 2;replace j:=hd j;go_wp2;refine leaves_cons (f:=235) (args:=#[.pointer (some ⟨bp,0,none⟩)]) (by simp) (by simp[go_sem]) ?_;refine (S9 _ bp ((d:Int)+1) (by omega) U X .returning).mono ?_;rintro e' u' w8 ⟨rfl,rfl,rfl⟩;refine⟨_,results_tmp rfl _ _ _,?_⟩;have ed:(d:Int)+1-1=d:=(by omega);rw[ed];have hz8:(n.setCell ⟨bp,2,none⟩ (.int .i64 d)).heap.size=n.heap.size:=z5 _ _ _;have hkc:∀c,w.heap.size≤c→(n.setCell ⟨bp,2,none⟩ (.int .i64 d)).heap[c]? =n.heap[c]? :=fun c hc=>z6 _ _ _ _ (show c≠bp by omega);have hps:Ps B bp pv L (k2+1) (d:Int) (us++C7 l++C7 r) uv5 (n.setCell ⟨bp,2,none⟩ (.int .i64 d)):=j.out.only (j.out.pa.setDep d) ((A8.refl bp n).setCell (a:=⟨bp,2,none⟩) (.inl rfl) _) (z4 _);refine A6 (O.out _ (.iface 346 (.pointer (some ⟨b,0,none⟩))) uv5 ?_ (Z.out.trans (Fu.of_only ((A8.refl bp n).setCell (a:=⟨bp,2,none⟩) (.inl rfl) _))) ⟨b,.iface tl ul,.iface tr z,rfl,by omega,by rw[hz8];omega,?_,?_,?_⟩) rfl
      ·simp only[C7];rw[List.append_assoc] at hps;exact hps
      ·refine R5 ((hkc b (by omega)).trans hb7.out) rfl (fun i hi=>?_);have:i=0∨i=1∨i=2∨i=3∨i=4∨i=5:=(by omega);rcases this with rfl|rfl|rfl|rfl|rfl|rfl<;>rfl
      ·exact (T.out.wide (by omega) (z4 _)).keep (fun c cur hc _ _=>hkc c hc)
      ·rw[hz8];refine (Q.out.wide (z4 _) ?_).keep (fun c cur hc _ _=>hkc c (by omega));omega
     ·intro eR n j t;have O:=hd (no.out (by show pPr L f k d=_;unfold pPr;rw[if_pos C,D];simp only[z0,V,M];unfold B6;rw[eR];rfl));have Z:=hd (E.out.trans t);clear S P t hb6 y E;have U:n.cell? ⟨bp,2,none⟩=some (.int .i64 ((d:Int)+1)):=j.pa.row.cell (i:=2) (by omega);have X:=j.pa.row.frozen 2;replace j:=hd j;go_wp2;refine leaves_cons (f:=235) (args:=#[.pointer (some ⟨bp,0,none⟩)]) (by simp) (by simp[go_sem]) ?_;refine (S9 _ bp ((d:Int)+1) (by omega) U X .returning).mono ?_;rintro e' u' w8 ⟨rfl,rfl,rfl⟩;refine⟨_,results_tmp rfl _ _ _,?_⟩;have ed:(d:Int)+1-1=d:=(by omega);rw[ed];exact A6 (O.out _ _ _ _ (j.out.only (j.out.pa.setDep d) ((A8.refl bp n).setCell (a:=⟨bp,2,none⟩) (.inl rfl) _)) (Z.out.trans (Fu.of_only ((A8.refl bp n).setCell (a:=⟨bp,2,none⟩) (.inl rfl) _))) ⟨_,_,rfl⟩) rfl
    ·intro M w5 vr us5 uv5 F q H;change pE L f (k1+1) (d+1)=_ at M;obtain⟨tr,z,rfl⟩:=H;have O:=hd (no.out (by show pPr L f k d=_;unfold pPr;rw[if_pos C,D];simp only[z0,V,M];rfl));rw[←K] at F;have g:=v.out.apart u.out (by decide) p q;have J:=hd (I.out.trans q);clear q v I hx3;have a1:=A1 (i:=1) g rfl;have f1:=B2 (i:=1) g;have y:=hd (F.setNew g (by decide) m 1 (.iface tr z));have E:=hd (J.out.setNew (show w.heap.size≤b by omega) 1 (.iface tr z));replace g:=hd g;go_wp2_with (fail);refine B0m (s:=wRP) y.out (by kernel_rfl) _ ?_;intro n j t;have Z:=hd (E.out.trans t);clear t y E F J;have U:n.cell? ⟨bp,2,none⟩=some (.int .i64 ((d:Int)+1)):=j.pa.row.cell (i:=2) (by omega);have X:=j.pa.row.frozen 2;replace j:=hd j;go_wp2;refine leaves_cons (f:=235) (args:=#[.pointer (some ⟨bp,0,none⟩)]) (by simp) (by simp[go_sem]) ?_;refine (S9 _ bp ((d:Int)+1) (by omega) U X .returning).mono ?_;rintro e' u' w8 ⟨rfl,rfl,rfl⟩;refine⟨_,results_tmp rfl _ _ _,?_⟩;have ed:(d:Int)+1-1=d:=(by omega);rw[ed];exact A6 (O.out _ _ _ _ (j.out.only (j.out.pa.setDep d) ((A8.refl bp n).setCell (a:=⟨bp,2,none⟩) (.inl rfl) _)) (Z.out.trans (Fu.of_only ((A8.refl bp n).setCell (a:=⟨bp,2,none⟩) (.inl rfl) _))) ⟨_,_,rfl⟩) rfl
   ·intro V w3 G A;have O:=hd (no.out (by show pPr L f k d=_;unfold pPr;rw[if_pos C,D];simp only[z0,V];rfl));have e:=(x.alloc _).apart A2 (by decide) p A;have F3:=hd (F2.out.trans ((Fu.of_below ((Below.refl _ N).alloc (z4 _) _)).trans A));clear A F2 hx2;have a2:=A1 (i:=2) e rfl;have a3:=A1 (i:=3) e rfl;have a4:=A1 (i:=4) e rfl;have fz:=fun i=>B2 (i:=i) e;generalize Y:N.heap.size=b at*;replace Y:=hd Y;have u:=hd (A4 (i:=4) (A4 (i:=3) (A4 (i:=2) e (.string ⟨#[]⟩)) (.int .u8 0)) (.int .u8 0));have v:=hd (((G.setNew e (by decide) m 2 (.string ⟨#[]⟩)).setNew (A4 e _) (by decide) m 3 (.int .u8 0)).setNew (A4 (A4 e _) _) (by decide) m 4 (.int .u8 0));have I:=hd (((F3.out.setNew (show w.heap.size≤b by omega) 2 (.string ⟨#[]⟩)).setNew (show w.heap.size≤b by omega) 3 (.int .u8 0)).setNew (show w.heap.size≤b by omega) 4 (.int .u8 0));replace G:=hd G;replace e:=hd e;go_wp2_with (fail);refine A5r v.out _ ?_;intro w5 vr F q H;obtain⟨tr,z,rfl⟩:=H;have g:=v.out.apart u.out (by decide) p q;have J:=hd (I.out.trans q);clear q v I;have a1:=A1 (i:=1) g rfl;have f1:=B2 (i:=1) g;have y:=hd (F.setNew g (by decide) m 1 (.iface tr z));have E:=hd (J.out.setNew (show w.heap.size≤b by omega) 1 (.iface tr z));replace g:=hd g;go_wp2_with (fail);refine B0m (s:=wRP) y.out (by kernel_rfl) _ ?_;intro n j t;have Z:=hd (E.out.trans t);clear t y E F J;have U:n.cell? ⟨bp,2,none⟩=some (.int .i64 ((d:Int)+1)):=j.pa.row.cell (i:=2) (by omega);have X:=j.pa.row.frozen 2;replace j:=hd j;go_wp2;refine leaves_cons (f:=235) (args:=#[.pointer (some ⟨bp,0,none⟩)]) (by simp) (by simp[go_sem]) ?_;refine (S9 _ bp ((d:Int)+1) (by omega) U X .returning).mono ?_;rintro e' u' w8 ⟨rfl,rfl,rfl⟩;refine⟨_,results_tmp rfl _ _ _,?_⟩;have ed:(d:Int)+1-1=d:=(by omega);rw[ed];exact A6 (O.out _ _ _ _ (j.out.only (j.out.pa.setDep d) ((A8.refl bp n).setCell (a:=⟨bp,2,none⟩) (.inl rfl) _)) (Z.out.trans (Fu.of_only ((A8.refl bp n).setCell (a:=⟨bp,2,none⟩) (.inl rfl) _))) ⟨_,_,rfl⟩) rfl
  ·intro D N vl us2 uv2 x g2 hv2;change pE L f k (d+1)=_ at D;obtain⟨tl,ul,rfl⟩:=hv2;have O:=hd (no.out (by show pPr L f k d=_;unfold pPr;rw[if_pos C,D];rfl));rw[←K] at x;have F2:=hd (F1.out.trans g2);clear g2 F1 h1;have hlt2:=x.pa.row.lt;have m:=x.le;have hz2:=F2.out.size;have p:bp≠N.heap.size:=(by omega);go_wp2_with (fail);refine nOp (x.alloc _) _ ?_;intro w3 G A;have e:=(x.alloc _).apart A2 (by decide) p A;have F3:=hd (F2.out.trans ((Fu.of_below ((Below.refl _ N).alloc (z4 _) _)).trans A));clear A;have a2:=A1 (i:=2) e rfl;have a3:=A1 (i:=3) e rfl;have a4:=A1 (i:=4) e rfl;have fz:=fun i=>B2 (i:=i) e;generalize Y:N.heap.size=b at*;replace Y:=hd Y;have u:=hd (A4 (i:=4) (A4 (i:=3) (A4 (i:=2) e (.string ⟨#[]⟩)) (.int .u8 0)) (.int .u8 0));have v:=hd (((G.setNew e (by decide) m 2 (.string ⟨#[]⟩)).setNew (A4 e _) (by decide) m 3 (.int .u8 0)).setNew (A4 (A4 e _) _) (by decide) m 4 (.int .u8 0));have I:=hd (((F3.out.setNew (show w.heap.size≤b by omega) 2 (.string ⟨#[]⟩)).setNew (show w.heap.size≤b by omega) 3 (.int .u8 0)).setNew (show w.heap.size≤b by omega) 4 (.int .u8 0));replace G:=hd G;replace e:=hd e;go_wp2_with (fail);refine A5r v.out _ ?_;intro w5 vr F q H;obtain⟨tr,z,rfl⟩:=H;have g:=v.out.apart u.out (by decide) p q;have J:=hd (I.out.trans q);clear q v I;have a1:=A1 (i:=1) g rfl;have f1:=B2 (i:=1) g;have y:=hd (F.setNew g (by decide) m 1 (.iface tr z));have E:=hd (J.out.setNew (show w.heap.size≤b by omega) 1 (.iface tr z));replace g:=hd g;go_wp2_with (fail);refine B0m (s:=wRP) y.out (by kernel_rfl) _ ?_;intro n j t;have Z:=hd (E.out.trans t);clear t y E F J;have U:n.cell? ⟨bp,2,none⟩=some (.int .i64 ((d:Int)+1)):=j.pa.row.cell (i:=2) (by omega);have X:=j.pa.row.frozen 2;replace j:=hd j;go_wp2;refine leaves_cons (f:=235) (args:=#[.pointer (some ⟨bp,0,none⟩)]) (by simp) (by simp[go_sem]) ?_;refine (S9 _ bp ((d:Int)+1) (by omega) U X .returning).mono ?_;rintro e' u' w8 ⟨rfl,rfl,rfl⟩;refine⟨_,results_tmp rfl _ _ _,?_⟩;have ed:(d:Int)+1-1=d:=(by omega);rw[ed];exact A6 (O.out _ _ _ _ (j.out.only (j.out.pa.setDep d) ((A8.refl bp n).setCell (a:=⟨bp,2,none⟩) (.inl rfl) _)) (Z.out.trans (Fu.of_only ((A8.refl bp n).setCell (a:=⟨bp,2,none⟩) (.inl rfl) _))) ⟨_,_,rfl⟩) rfl
 ·intro hd9 w1 h1 g1;have O:=hd (no.out (by show pPr L f k d=_;unfold pPr;rw[if_neg (by omega)]));have F1:=hd g1;clear g1;go_wp2_with (fail);refine A5r h1 _ ?_;intro N vl x g2 hv2;obtain⟨tl,ul,rfl⟩:=hv2;have F2:=hd (F1.out.trans g2);clear g2 F1 h1;have hlt2:=x.pa.row.lt;have m:=x.le;have hz2:=F2.out.size;have p:bp≠N.heap.size:=(by omega);go_wp2_with (fail);refine nOp (x.alloc _) _ ?_;intro w3 G A;have e:=(x.alloc _).apart A2 (by decide) p A;have F3:=hd (F2.out.trans ((Fu.of_below ((Below.refl _ N).alloc (z4 _) _)).trans A));clear A;have a2:=A1 (i:=2) e rfl;have a3:=A1 (i:=3) e rfl;have a4:=A1 (i:=4) e rfl;have fz:=fun i=>B2 (i:=i) e;generalize Y:N.heap.size=b at*;replace Y:=hd Y;have u:=hd (A4 (i:=4) (A4 (i:=3) (A4 (i:=2) e (.string ⟨#[]⟩)) (.int .u8 0)) (.int .u8 0));have v:=hd (((G.setNew e (by decide) m 2 (.string ⟨#[]⟩)).setNew (A4 e _) (by decide) m 3 (.int .u8 0)).setNew (A4 (A4 e _) _) (by decide) m 4 (.int .u8 0));have I:=hd (((F3.out.setNew (show w.heap.size≤b by omega) 2 (.string ⟨#[]⟩)).setNew (show w.heap.size≤b by omega) 3 (.int .u8 0)).setNew (show w.heap.size≤b by omega) 4 (.int .u8 0));replace G:=hd G;replace e:=hd e;go_wp2_with (fail);refine A5r v.out _ ?_;intro w5 vr F q H;obtain⟨tr,z,rfl⟩:=H;have g:=v.out.apart u.out (by decide) p q;have J:=hd (I.out.trans q);clear q v I;have a1:=A1 (i:=1) g rfl;have f1:=B2 (i:=1) g;have y:=hd (F.setNew g (by decide) m 1 (.iface tr z));have E:=hd (J.out.setNew (show w.heap.size≤b by omega) 1 (.iface tr z));replace g:=hd g;go_wp2_with (fail);refine B0m (s:=wRP) y.out (by kernel_rfl) _ ?_;intro n j t;have Z:=hd (E.out.trans t);clear t y E F J;have U:n.cell? ⟨bp,2,none⟩=some (.int .i64 ((d:Int)+1)):=j.pa.row.cell (i:=2) (by omega);have X:=j.pa.row.frozen 2;replace j:=hd j;go_wp2;refine leaves_cons (f:=235) (args:=#[.pointer (some ⟨bp,0,none⟩)]) (by simp) (by simp[go_sem]) ?_;refine (S9 _ bp ((d:Int)+1) (by omega) U X .returning).mono ?_;rintro e' u' w8 ⟨rfl,rfl,rfl⟩;refine⟨_,results_tmp rfl _ _ _,?_⟩;have ed:(d:Int)+1-1=d:=(by omega);rw[ed];exact A6 (O.out _ _ _ _ (j.out.only (j.out.pa.setDep d) ((A8.refl bp n).setCell (a:=⟨bp,2,none⟩) (.inl rfl) _)) (Z.out.trans (Fu.of_only ((A8.refl bp n).setCell (a:=⟨bp,2,none⟩) (.inl rfl) _))) ⟨_,_,rfl⟩) rfl
section
def Pu (B bp:Nat)(pv:VL)(L:LB)(d:Int)(st:Option Nat)(us:LB)(uv:VL)(w:WD):Prop:=match st with
 |some k=>Ps B bp pv L k d us uv w
 |none=>Pn B bp pv L d us uv w
def xS (L:LB)(s:BA)(k:Nat):Option Nat:=if B6 (A0 L k) s then some (k+1) else none
def xN (L:LB)(k:Nat):Option Nat:=if O7 (A0 L k) then some (k+1) else none
section
variable {B bp:Nat}{pv:VL}{L:LB}{st:Option Nat}{d:Int}{us:LB}{uv:VL}{w:WD}
theorem Pu.lt (h:Pu B bp pv L d st us uv w):bp<w.heap.size:=by
 cases st with
 |some k=>exact Ps.pa (h:Ps B bp pv L k d us uv w) |>.row.lt
 |none=>exact Pn.pa (h:Pn B bp pv L d us uv w) |>.row.lt
theorem Pu.le (h:Pu B bp pv L d st us uv w):B≤w.heap.size:=by
 cases st with
 |some k=>exact Ps.le (h:Ps B bp pv L k d us uv w)
 |none=>exact Pn.le (h:Pn B bp pv L d us uv w)
theorem Pu.blt (h:Pu B bp pv L d st us uv w):bp<B:=by
 cases st with
 |some k=>exact Ps.lt (h:Ps B bp pv L k d us uv w)
 |none=>exact Pn.lt (h:Pn B bp pv L d us uv w)
theorem Pu.alloc (h:Pu B bp pv L d st us uv w)(o:Obj):Pu B bp pv L d st us uv (w.alloc o):=by
 cases st with
 |some k=>exact Ps.alloc (h:Ps B bp pv L k d us uv w) o
 |none=>exact Pn.alloc (h:Pn B bp pv L d us uv w) o
theorem Pu.drew (h:Pu B bp pv L d st us uv w):Pu B bp pv L d st us uv w.drew:=by
 cases st with
 |some k=>exact Ps.drew (h:Ps B bp pv L k d us uv w)
 |none=>exact Pn.drew (h:Pn B bp pv L d us uv w)
theorem Pu.bel (h:Pu B bp pv L d st us uv w){w':WD}(a:Below w.heap.size w w'):Pu B bp pv L d st us uv w':=by
 cases st with
 |some k=>exact Ps.bel (h:Ps B bp pv L k d us uv w) a
 |none=>exact Pn.bel (h:Pn B bp pv L d us uv w) a
theorem Pu.apart (h:Pu B bp pv L d st us uv w){g:Nat}{cur:Array VL}{T:Nat}{fz:Nat×Nat}(c:w.heap[g]? =some (.cells cur T fz))(e:T≠9)(hB:bp≠g){a:VL}{w':WD}(b:Fu bp uv a w w'):w'.heap[g]? =some (.cells cur T fz):=by
 cases st with
 |some k=>exact Ps.apart (h:Ps B bp pv L k d us uv w) c e hB b
 |none=>exact Pn.apart (h:Pn B bp pv L d us uv w) c e hB b
theorem Pu.setNew (h:Pu B bp pv L d st us uv w){g:Nat}{cur:Array VL}{T:Nat}{fz:Nat×Nat}(a:w.heap[g]? =some (.cells cur T fz))(b:T≠9)(hB:B≤g)(i:Nat)(v:VL):Pu B bp pv L d st us uv (w.setCell ⟨g,i,none⟩ v):=by
 cases st with
 |some k=>exact Ps.setNew (h:Ps B bp pv L k d us uv w) a b hB i v
 |none=>exact Pn.setNew (h:Pn B bp pv L d us uv w) a b hB i v
theorem Pu.grow (h:Pu B bp pv L d st us uv w){w':WD}{c T i n:Nat}{lv:VL}{xs:List VL}(a:w.ownsRow c T i lv n xs)(f:T≠9)(hB:B≤c)(g:w.heap.size≤w'.heap.size)(e:∀b,b<w.heap.size→lv.ownBlock≠some b→w'.heap[b]? =w.heap[b]?):Pu B bp pv L d st us uv w':=by
 cases st with
 |some k=>exact Ps.grow (h:Ps B bp pv L k d us uv w) a f hB g e
 |none=>exact Pn.grow (h:Pn B bp pv L d us uv w) a f hB g e
theorem Pu.c2 (h:Pu B bp pv L d st us uv w):w.cell? ⟨bp,2,none⟩=some (.int .i64 d):=by
 cases st with
 |some k=>exact Ps.pa (h:Ps B bp pv L k d us uv w) |>.row.cell (i:=2) (by omega)
 |none=>exact Pn.pa (h:Pn B bp pv L d us uv w) |>.row.cell (i:=2) (by omega)
theorem Pu.f2 (h:Pu B bp pv L d st us uv w):w.frozen? ⟨bp,2,none⟩=false:=by
 cases st with
 |some k=>exact Ps.pa (h:Ps B bp pv L k d us uv w) |>.row.frozen 2
 |none=>exact Pn.pa (h:Pn B bp pv L d us uv w) |>.row.frozen 2
theorem Pu.dep (h:Pu B bp pv L d st us uv w)(d':Int):Pu B bp pv L d' st us uv (w.setCell ⟨bp,2,none⟩ (.int .i64 d')):=by
 cases st with
 |some k=>exact Ps.only (h:Ps B bp pv L k d us uv w) (Ps.pa (h:Ps B bp pv L k d us uv w) |>.setDep d') ((A8.refl bp w).setCell (a:=⟨bp,2,none⟩) (.inl rfl) _) (z4 _)
 |none=>exact Pn.only (h:Pn B bp pv L d us uv w) (Pn.pa (h:Pn B bp pv L d us uv w) |>.setDep d') ((A8.refl bp w).setCell (a:=⟨bp,2,none⟩) (.inl rfl) _)
theorem Pu.er (h:Pu B bp pv L d st us uv w)(b:Er bp w){a:VL}{w':WD}(c:Fu bp uv a w w'):Er bp w':=by
 cases st with
 |some k=>exact Ps.er (h:Ps B bp pv L k d us uv w) b c
 |none=>exact Pn.er (h:Pn B bp pv L d us uv w) b c
theorem Fu.sameU {a:VL}{w':WD}(e:Fu bp uv a w w')(h:Pu B bp pv L d st us uv w){lo hi:Nat}(i:bp<lo)(g:Option Nat):A02 w w' lo hi g:=
 fun b cur T f j _ _ c=>(h.apart c f (by omega) e).trans c.symm
theorem A6D (d':Int):Fu bp uv uv w (w.setCell ⟨bp,2,none⟩ (.int .i64 d')):=Fu.of_only ((A8.refl bp w).setCell (a:=⟨bp,2,none⟩) (.inl rfl) _)
theorem T9 {s t:BA}(h:s=t):B6 s t=true:=by unfold B6;rw[h];exact beq_self_eq_true _
theorem A0x (h:Pu B bp pv L d st us uv w){s:BA}(f:s.size≠0)(R:RP)(a:∀w',Pu B bp pv L d (st.bind (xS L s)) us uv w'→Fu bp uv uv w w'→R (.returned (.tuple #[])) w'):Calls Tryz.prog 132 #[.pointer (some ⟨bp,0,none⟩),.string s] w R:=by
 have i:((⟨#[]⟩:BA).toList==s.toList)=false:=by
  cases e:((⟨#[]⟩:BA).toList==s.toList) with
  |false=>rfl
  |true=>exact absurd (by rw[←A0u e];rfl) f
 cases st with
 |none=>exact B0m (h:Pn B bp pv L d us uv w) i R a
 |some k=>
  have g:(some k:Option Nat).bind (xS L s)=if B6 (A0 L k) s then some (k+1) else none:=rfl;rw[g] at a;refine B68 (h:Ps B bp pv L k d us uv w) f R (fun e w' c b=>a w' ?_ b) (fun e w' c b=>a w' ?_ b)
  ·rw[if_pos (T9 e)];exact c
  ·rw[if_neg (by unfold B6;rw[e];decide)];exact c
theorem A5j (h:Pu B bp pv L d st us uv w){s:BA}(f:s.size≠0)(R:RP)(b:∀k,st=some k→B6 (A0 L k) s=true→∀w',Pu B bp pv L d (some (k+1)) us uv w'→Fu bp uv uv w w'→R (.returned (.bool true)) w')(c:(∀k,st=some k→B6 (A0 L k) s=false)→∀w',Pu B bp pv L d st us uv w'→Fu bp uv uv w w'→R (.returned (.bool false)) w'):Calls Tryz.prog 196 #[.pointer (some ⟨bp,0,none⟩),.string s] w R:=by
 have g:((⟨#[]⟩:BA).toList==s.toList)=false:=by
  cases e:((⟨#[]⟩:BA).toList==s.toList) with
  |false=>rfl
  |true=>exact absurd (by rw[←A0u e];rfl) f
 cases st with
 |none=>exact A3k (h:Pn B bp pv L d us uv w) g R (c (fun k e=>by cases e))
 |some k=>exact A38 (h:Ps B bp pv L k d us uv w) f R (fun e=>b k rfl (T9 e)) (fun e=>c (fun k' a=>by injection a with a;subst a;exact e))
theorem A58 (h:Pu B bp pv L d st us uv w)(f:0≤d∧d≤10)(R:RP)(a:∀w',Pu B bp pv L (d+1) (if d<10 then st else none) us uv w'→Fu bp uv uv w w'→R (.returned (.tuple #[])) w'):Calls Tryz.prog 234 #[.pointer (some ⟨bp,0,none⟩)] w R:=by
 cases st with
 |none=>exact B6E (h:Pn B bp pv L d us uv w) (by omega) R (fun w' c b=>a w' (by split<;>exact c) b)
 |some k=>exact A8G (h:Ps B bp pv L k d us uv w) f R (fun e w' c b=>a w' (by rw[if_pos (by omega)];exact c) b) (fun e w' c b=>a w' (by rw[if_neg (by omega)];exact c) b)
theorem B9B (i:A0f L)(h:Pu B bp pv L d st us uv w)(R:RP)(a:∀w' s,(∀k,st=some k→O7 (A0 L k)=true→s=A0 L k)→Pu B bp pv L d (st.bind (xN L)) us uv w'→Fu bp uv uv w w'→R (.returned (.string s)) w'):Calls Tryz.prog 197 #[.pointer (some ⟨bp,0,none⟩)] w R:=by
 cases st with
 |none=>exact B5k (h:Pn B bp pv L d us uv w) R (fun w'=>a w' _ (fun k e=>by cases e))
 |some k=>
  have j:(some k:Option Nat).bind (xN L)=if O7 (A0 L k) then some (k+1) else none:=rfl;rw[j] at a;refine B5g i (h:Ps B bp pv L k d us uv w) R (fun e w' f c=>a w' _ (fun k' b _=>by injection b with b;rw[b]) ?_ c) (fun e w' f c=>a w' _ (fun k' b g=>by injection b with b;rw[←b,e] at g;cases g) ?_ c)
  ·rw[if_pos (A6F e)];exact f
  ·rw[if_neg (by rw[e];decide)];exact f
theorem B8t (l:A0f L)(h:Pu B bp pv L d st us uv w)(f:us.length≤L.length)(R:RP)(b:∀w' s a,(∀k,st=some k→O7 (A0 L k)=true→s=A0 L k)→Pu B bp pv L d (st.bind (xN L)) (us++[s]) a w'→Fu bp uv a w w'→R (.returned (.string s)) w'):Calls Tryz.prog 238 #[.pointer (some ⟨bp,0,none⟩)] w R:=by
 cases st with
 |none=>exact C0p (h:Pn B bp pv L d us uv w) f R (fun w' a=>b w' _ a (fun k e=>by cases e))
 |some k=>
  have m:(some k:Option Nat).bind (xN L)=if O7 (A0 L k) then some (k+1) else none:=rfl;rw[m] at b;refine C0H l (h:Ps B bp pv L k d us uv w) R (fun e w' a i g=>b w' _ a (fun k' c _=>by injection c with c;rw[c]) ?_ g) (fun e w' a i g=>b w' _ a (fun k' c j=>by injection c with c;rw[←c,e] at j;cases j) ?_ g)
  ·rw[if_pos (A6F e)];exact i
  ·rw[if_neg (by rw[e];decide)];exact i
theorem B3V (i:A0f L)(h:Pu B bp pv L d st us uv w)(g:Er bp w)(R:RP)(a:∀w' n,(∀m k',st.bind (D2 L)=some (m,k')→n=m)→Pu B bp pv L d ((st.bind (D2 L)).map (·.2)) us uv w'→Fu bp uv uv w w'→R (.returned (.int .i64 n)) w'):Calls Tryz.prog 239 #[.pointer (some ⟨bp,0,none⟩)] w R:=by
 cases st with
 |none=>exact C0x (h:Pn B bp pv L d us uv w) g R (fun w' n=>a w' n (fun m k' e=>by cases e))
 |some k=>
  have j:(some k:Option Nat).bind (D2 L)=D2 L k:=rfl;rw[j] at a;refine B7e i (h:Ps B bp pv L k d us uv w) g R (fun n k' e w' f c=>a w' n (fun m l b=>by rw[e] at b;injection b with b;injection b) ?_ c) (fun e w' n f c=>a w' n (fun m l b=>by rw[e] at b;cases b) ?_ c)
  ·rw[e];exact f
  ·rw[e];exact f
def A2n (L:LB)(k:Nat):Option (Int×Nat):=if Y8 (A0 L k) then some (Y1 (⟨#[]⟩++A0 L k),k+1) else none
theorem C0g (i:A0f L)(h:Pu B bp pv L d st us uv w)(g:Er bp w)(R:RP)(a:∀w' n,(∀m k',st.bind (A2n L)=some (m,k')→n=m)→Pu B bp pv L d ((st.bind (A2n L)).map (·.2)) us uv w'→Fu bp uv uv w w'→R (.returned (.int .i64 n)) w'):Calls Tryz.prog 198 #[.pointer (some ⟨bp,0,none⟩),.string ⟨#[]⟩] w R:=by
 cases st with
 |none=>exact B9c (h:Pn B bp pv L d us uv w) g _ (by decide) R (fun w' n=>a w' n (fun m k' e=>by cases e))
 |some k=>
  have j:(some k:Option Nat).bind (A2n L)=if Y8 (A0 L k) then some (Y1 (⟨#[]⟩++A0 L k),k+1) else none:=rfl;rw[j] at a;refine B6Z i (h:Ps B bp pv L k d us uv w) g _ (by decide) R (fun e w' f c=>a w' _ (fun m l b=>by rw[if_pos e] at b;injection b with b;injection b) ?_ c) (fun e w' n f c=>a w' n (fun m l b=>by rw[if_neg (by rw[e];decide)] at b;cases b) ?_ c)
  ·rw[if_pos e];exact f
  ·rw[if_neg (by rw[e];decide)];exact f
def ExU (r:Option (Ex×Nat))(lo hi:Nat)(w:WD)(v:VL):Prop:=∀e k',r=some (e,k')→E9 (fun _=>0) e lo hi w v
theorem ExU.keep {r:Option (Ex×Nat)}{lo hi:Nat}{v:VL}(h:ExU r lo hi w v){w':WD}(k:A02 w w' lo hi none):ExU r lo hi w' v:=fun e k' a=>(h e k' a).keep' k
theorem ExU.wide {r:Option (Ex×Nat)}{lo hi:Nat}{v:VL}(h:ExU r lo hi w v){lo' hi':Nat}(b:lo'≤lo)(c:hi≤hi'):ExU r lo' hi' w v:=fun e k' a=>(h e k' a).wide b c
theorem A7z {f:Nat}{d:Nat}(C:∀k,A05 L f k (fun d=>pE L f k d) 233)(h:Pu B bp pv L (d:Int) st us uv w)(z:Er bp w)(o:∀k,st=some k→d≤10∧L.length<k+f)(R:RP)(j:∀w' t u i b,Pu B bp pv L (d:Int) ((st.bind (fun k=>pE L f k d)).map (·.2)) i b w'→(∀e k',st.bind (fun k=>pE L f k d)=some (e,k')→i=us++C7 e)→(∀k k' e,st=some k→st.bind (fun k=>pE L f k d)=some (e,k')→k<k')→Fu bp uv b w w'→ExU (st.bind (fun k=>pE L f k d)) w.heap.size w'.heap.size w' (.iface t u)→R (.returned (.iface t u)) w'):Calls Tryz.prog 233 #[.pointer (some ⟨bp,0,none⟩)] w R:=by
 cases st with
 |none=>exact A5r (h:Pn B bp pv L d us uv w) R (fun w' v n m q=>by obtain⟨t,u,rfl⟩:=q;exact j w' t u us uv n (fun e k' c=>by cases c) (fun k k' e c=>by cases c) m (fun e k' c=>by cases c))
 |some k=>
  have D:(some k:Option Nat).bind (fun k=>pE L f k d)=pE L f k d:=rfl;rw[D] at j;obtain⟨r,x⟩:=o k rfl;refine C k (h:Ps B bp pv L k d us uv w) z r x R (fun e k' g A w' v b n m s=>?_) (fun g w' v i b n m q=>?_)
  ·obtain⟨t,u,rfl⟩:=s.iface;change pE L f k d=_ at g;refine j w' t u _ b (by rw[g];exact n) (fun c p a=>?_) (fun y p c a l=>?_) m (fun c p a=>?_)
   ·rw[g] at a;injection a with a;injection a with a;rw[a]
   ·rw[g] at l;injection l with l;injection l with _ l;injection a with a;omega
   ·rw[g] at a;injection a with a;injection a with a;rw[←a];exact s
  ·obtain⟨t,u,rfl⟩:=q;change pE L f k d=_ at g;exact j w' t u i b (by rw[g];exact n) (fun c p a=>by rw[g] at a;cases a) (fun y p c a l=>by rw[g] at l;cases l) m (fun c p a=>by rw[g] at a;cases a)
end
end
theorem bxS {L:LB}{s:BA}{o:Option Nat}{k':Nat}(h:o.bind (xS L s)=some k'):∃k,o=some k∧B6 (A0 L k) s=true∧k'=k+1:=by
 cases o with
 |none=>cases h
 |some k=>
  simp only[z0,xS] at h;split at h
  ·rename_i e;injection h with h;exact⟨k,rfl,e,h.symm⟩
  ·cases h
theorem bxN {L:LB}{o:Option Nat}{k':Nat}(h:o.bind (xN L)=some k'):∃k,o=some k∧O7 (A0 L k)=true∧k'=k+1:=by
 cases o with
 |none=>cases h
 |some k=>
  simp only[z0,xN] at h;split at h
  ·rename_i e;injection h with h;exact⟨k,rfl,e,h.symm⟩
  ·cases h
theorem bmS {A:Type}{o:Option (A×Nat)}{k':Nat}(h:o.map (·.2)=some k'):∃a,o=some (a,k'):=by
 cases o with
 |none=>cases h
 |some p=>injection h with h;exact⟨p.1,by rw[←h]⟩
def pDl (L:LB)(f k d:Nat):Option (Ex×Nat):=
 if d<10 then (if B6 (A0 L k) wLP then (if O7 (A0 L (k+1)) then (if B6 (A0 L (k+2)) wCM then (pE L f (k+3) (d+1)).bind (fun p=>if B6 (A0 L p.2) wCM then (pE L f (p.2+1) (d+1)).bind (fun q=>if B6 (A0 L q.2) wRP then some (.dly (A0 L (k+1)) p.1 q.1,q.2+1) else none) else none) else none) else none) else none) else none
theorem B7r (L:LB)(f k d:Nat)(n i m g:Option Nat)(s t:Option (Ex×Nat))(o:n=if (d:Int)<10 then some k else none)(a:i=((n.bind (xS L wLP)).bind (xN L)).bind (xS L wCM))(j:s=i.bind (fun k=>pE L f k (d+1)))(c:m=(s.map (·.2)).bind (xS L wCM))(e:t=m.bind (fun k=>pE L f k (d+1)))(b:g=(t.map (·.2)).bind (xS L wRP)):(g=none→pDl L f k d=none)∧(∀k',g=some k'→∃l r A B,s=some (l,A)∧t=some (r,B)∧d<10∧i=some (k+3)∧O7 (A0 L (k+1))=true∧pDl L f k d=some (.dly (A0 L (k+1)) l r,k')):=by
 by_cases hd:d<10;rotate_left
 ·rw[if_neg (by omega)] at o;subst o;subst a j c e b;exact⟨fun _=>by unfold pDl;rw[if_neg hd],fun k' h=>by cases h⟩
 rw[if_pos (by omega)] at o;subst o;unfold pDl;rw[if_pos hd];simp only[z0,xS] at a;by_cases x:B6 (A0 L k) wLP=true;rotate_left
 ·rw[if_neg x] at a;subst a j c e b;exact⟨fun _=>by rw[if_neg x],fun k' h=>by cases h⟩
 rw[if_pos x] at a ⊢;simp only[z0,xN] at a;by_cases y:O7 (A0 L (k+1))=true;rotate_left
 ·rw[if_neg y] at a;subst a j c e b;exact⟨fun _=>by rw[if_neg y],fun k' h=>by cases h⟩
 rw[if_pos y] at a ⊢;simp only[z0,xS] at a;by_cases u:B6 (A0 L (k+2)) wCM=true;rotate_left
 ·rw[if_neg u] at a;subst a j c e b;exact⟨fun _=>by rw[if_neg u],fun k' h=>by cases h⟩
 rw[if_pos u] at a ⊢;subst a;simp only[z0] at j;cases s with
 |none=>
  subst c e b;rw[←j];exact⟨fun _=>rfl,fun k' h=>by cases h⟩
 |some p=>
  rw[←j];simp only[Option.map_some,z0,xS] at c ⊢;by_cases v:B6 (A0 L p.2) wCM=true;rotate_left
  ·rw[if_neg v] at c;subst c e b;exact⟨fun _=>by rw[if_neg v],fun k' h=>by cases h⟩
  rw[if_pos v] at c ⊢;subst c;simp only[z0] at e;cases t with
  |none=>
   subst b;rw[←e];exact⟨fun _=>rfl,fun k' h=>by cases h⟩
  |some q=>
   rw[←e];simp only[Option.map_some,z0,xS] at b ⊢;by_cases z:B6 (A0 L q.2) wRP=true
   ·rw[if_pos z] at b ⊢;subst b;exact⟨(fun h=>by cases h),(fun k' h=>by injection h with h;subst h;refine⟨p.1,q.1,p.2,q.2,?_,?_,?_,?_,?_,?_⟩<;>first|rfl|trivial|assumption)⟩
   ·rw[if_neg z] at b ⊢;subst b;exact⟨fun _=>rfl,fun k' h=>by cases h⟩
theorem B6P {L:LB}(hL:A0f L){f k:Nat}(hE:∀k,A05 L f k (fun d=>pE L f k d) 233):A05 L f k (fun d=>pDl L f k d) 250:=by
 intro w B bp pv d us uv h he hd10 hk R z no;have hlen:us.length≤L.length:=(by have:=h.few;have:=h.pa.le;omega);have hu:Pu B bp pv L (d:Int) (some k) us uv w:=h;have hw0:=hu.lt;change ∀e k',pDl L f k d=some (e,k')→_ at z;change pDl L f k d=none→_ at no;replace z:=hd z;replace no:=hd no;clear h;go_enter_defers Tryz.func250,Tryz.ntmps250;go_wp2_with (fail);refine A58 hu (by omega) _ ?_;obtain⟨ac,A⟩:∃Q,Q=if (d:Int)<10 then some k else none:=⟨_,rfl⟩;rw[←A];intro w1 h1 ae;go_wp2_with (fail);refine A0x (s:=wLP) h1 (by decide) _ ?_;intro w2 h2 g2;have X:=ae.trans g2;go_wp2_with (fail);refine B8t hL h2 hlen _ ?_;intro w3 s uv3 hs h3 g3;have hz3:=(X.trans g3).size;have hlt3:=h3.lt;have aa:=h3.le;have p:bp≠w3.heap.size:=(by omega);have M:=hd (X.trans g3);have he3:=hu.er he M.out;clear ae X g2 g3 h1 h2;go_wp2_with (fail);refine A0x (s:=wCM) (h3.alloc _) (by decide) _ ?_;intro w4 h4 g4;obtain⟨C,J⟩:∃Q,Q=((ac.bind (xS L wLP)).bind (xN L)).bind (xS L wCM):=⟨_,rfl⟩;rw[←J] at h4;have K:=(h3.alloc _).apart A2 (by decide) p g4;have hz4:=g4.size;rw[World.size_alloc] at hz4;have U:=hd (M.out.trans ((Fu.of_below ((Below.refl _ w3).alloc (z4 _) _)).trans g4));have he4:=hu.er he U.out;have hk4:∀k',C=some k'→d+1≤10∧L.length<k'+f:=by
  intro k' e;rw[e] at J;obtain⟨q1,v,_,z1⟩:=bxS J.symm;obtain⟨q2,a,_,z2⟩:=bxN v;obtain⟨q3,e11,_,z3⟩:=bxS a;rw[e11] at A;split at A
  ·injection A with A;omega
  ·cases A
 clear g4 M h3;generalize hg:w3.heap.size=b at*;replace hg:=hd hg;replace K:=hd K;have ed1:((d:Int)+1)=((d+1:Nat):Int):=(by omega);rw[ed1] at h4;replace A:=hd A;replace J:=hd J;go_wp2_with (fail);refine A7z hE h4 he4 hk4 _ ?_;obtain⟨r5,e5⟩:∃r,r=C.bind (fun k=>pE L f k (d+1)):=⟨_,rfl⟩;rw[←e5];intro w5 tl O us5 uv5 h5 hn5 ad g5 hx5;have u:=h4.apart K.out (by decide) p g5;have hz5:=g5.size;have a1:=A1 (i:=1) u rfl;have f1:=B2 (i:=1) u;have hb6:=hd (A4 (i:=1) u (.iface tl O));have h6:=hd (h5.setNew u (by decide) aa 1 (.iface tl O));have af:=hd (hx5.keep (w':=w5.setCell ⟨b,1,none⟩ (.iface tl O)) (D0 (.inl (by omega))));have Z:=hd ((U.out.trans g5).setNew (show w.heap.size≤b by omega) 1 (.iface tl O));clear hx5 g5 u U;replace h5:=hd h5;replace e5:=hd e5;go_wp2_with (fail);refine A0x (s:=wCM) h6.out (by decide) _ ?_;intro w7 h7 g7;obtain⟨x,P⟩:∃Q,Q=(r5.map (·.2)).bind (xS L wCM):=⟨_,rfl⟩;rw[←P] at h7;have I:=h6.out.apart hb6.out (by decide) p g7;have y:=af.out.keep (g7.sameU h6.out (by omega) _);have hz7:=g7.size;rw[z5] at hz7;have V:=hd (Z.out.trans g7);have he7:=hu.er he V.out;have hk7:∀k',x=some k'→d+1≤10∧L.length<k'+f:=by
  intro k' e;rw[e] at P;obtain⟨q1,v,_,rfl⟩:=bxS P.symm;obtain⟨ee,hr⟩:=bmS v;cases N:C with
  |none=>have:=e5.out;rw[N,hr] at this;cases this
  |some k4=>
   have:=hk4 k4 N;have:=ad k4 q1 ee N hr;omega
 clear g7 Z hb6 af a1 f1 h6;replace I:=hd I;replace y:=hd y;replace P:=hd P;go_wp2_with (fail);refine A7z hE h7 he7 hk7 _ ?_;obtain⟨r7,e7⟩:∃r,r=x.bind (fun k=>pE L f k (d+1)):=⟨_,rfl⟩;rw[←e7];intro w8 tr F us8 T h8 hn8 hq8 g8 ag;have o:=h7.apart I.out (by decide) p g8;have H:=y.out.keep (g8.sameU h7 (by omega) _);have hz8:=g8.size;have a2:=A1 (i:=2) o rfl;have f2:=B2 (i:=2) o;have hb9:=hd (A4 (i:=2) o (.iface tr F));have E:=hd (h8.setNew o (by decide) aa 2 (.iface tr F));have D:=hd (H.keep (w':=w8.setCell ⟨b,2,none⟩ (.iface tr F)) (D0 (.inl (by omega))));have G:=hd (ag.keep (w':=w8.setCell ⟨b,2,none⟩ (.iface tr F)) (D0 (.inl (by omega))));have hf9:=hd ((V.out.trans g8).setNew (show w.heap.size≤b by omega) 2 (.iface tr F));clear ag g8 o V H y;replace h8:=hd h8;replace e7:=hd e7;go_wp2_with (fail);refine A0x (s:=wRP) E.out (by decide) _ ?_;intro S c g;obtain⟨ab,e8⟩:∃Q,Q=(r7.map (·.2)).bind (xS L wRP):=⟨_,rfl⟩;rw[←e8] at c;have t:=E.out.apart hb9.out (by decide) p g;have m:=D.out.keep (g.sameU E.out (by omega) _);have n:=G.out.keep (g.sameU E.out (by omega) _);have hzA:=g.size;rw[z5] at hzA;have hfA:=hd (hf9.out.trans g);have r0:=A1 (i:=0) t rfl;have r1:=A1 (i:=1) t rfl;have r2:=A1 (i:=2) t rfl;rw[←ed1] at c;have c2:=c.c2;have fz2:=c.f2;have hh:=hd (B7r L f k d ac C x ab r5 r7 A.out J.out e5.out P.out e7.out e8);clear g hb9 D G hf9 a2 f2 E;replace t:=hd t;replace m:=hd m;replace n:=hd n;replace c:=hd c;clear h8;go_wp2;refine leaves_cons (f:=235) (args:=#[.pointer (some ⟨bp,0,none⟩)]) (by simp) (by simp[go_sem]) ?_;refine (S9 _ bp ((d:Int)+1) (by omega) c2 fz2 .returning).mono ?_;rintro e u' wz ⟨rfl,rfl,rfl⟩;refine⟨_,results_tmp rfl _ _ _,?_⟩;have ed:(d:Int)+1-1=d:=(by omega);rw[ed];have j:=c.out.dep d;have hfZ:=hfA.out.trans (A6D (bp:=bp) (w:=S) (uv:=T) d);cases q:ab with
 |none=>
  rw[q] at j;exact A6 (no.out (hh.out.1 q) _ _ us8 T j hfZ ⟨354,.agg #[.string s,.iface tl O,.iface tr F],rfl⟩) rfl
 |some k'=>
  rw[q] at j;obtain⟨l,r,k1,k2,p1,p2,p3,p4,p5,p6⟩:=hh.out.2 k' q;have hsn:s=A0 L (k+1):=(by refine hs (k+1) ?_ p5;have E:=J.out;rw[p4] at E;obtain⟨q1,v,_,z1⟩:=bxS E.symm;obtain⟨q2,a,_,z2⟩:=bxN v;rw[a];congr 1;omega);have hkk:k<k':=by
   have a3:=ad (k+3) k1 l p4 p1;cases Y:x with
   |none=>have:=e7.out;rw[Y,p2] at this;cases this
   |some k6=>
    have a4:=hq8 k6 k2 r Y p2;have a5:=P.out;rw[Y] at a5;obtain⟨q1,v,_,rfl⟩:=bxS a5.symm;rw[p1] at v;injection v with v;have a6:=e8;rw[q] at a6;obtain⟨q2,a,_,rfl⟩:=bxS a6.symm;rw[p2] at a;injection a with a;simp only at v a;omega
  have hzz:(S.setCell ⟨bp,2,none⟩ (.int .i64 d)).heap.size=S.heap.size:=z5 _ _ _;refine A6 (z.out _ k' p6 hkk _ (.iface 354 (.agg #[.string s,.iface tl O,.iface tr F])) T ?_ hfZ ⟨.iface tl O,.iface tr F,w7.heap.size,by rw[hsn],by omega,by rw[hzz];omega,?_,?_⟩) rfl
  ·have n8:=hn8 r k2 p2;have n5:=hn5 l k1 p1;rw[n8,n5,hsn] at j;simp only[List.append_assoc,List.singleton_append] at j;exact j
  ·exact ((m.out l k1 p1).wide (by omega) (by omega)).keep' (D0 (.inl (by omega)))
  ·rw[hzz];exact ((n.out r k2 p2).wide (z4 _) (by omega)).keep' (D0 (.inl (by omega)))
end Go.Proofs.YtidhiaaicmfabaaGreatDoor
