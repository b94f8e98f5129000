/- Texts (its parts, joined). -/
import Derived.Test.YtidhiaaicmfabaaGreatDoorTqAR
import Derived.Test.YtidhiaaicmfabaaGreatDoorTqAN
open Array renaming getElem?_eq_some_iff→z0
namespace Go.Proofs.YtidhiaaicmfabaaGreatDoor
open Go.RowKit Go.Proofs Go.Deep
set_option maxRecDepth 100000
set_option maxHeartbeats 4000000
theorem O5.snoc {kk:Ex→Int}{w:WD}{g:Option Nat}{ns:List Int}{b:Sl}{e d:VL}{zs:List VL}{a m1 c hi:Nat}(n:C2 w a m1 2 1 e ns.length (A2t ns))(o:C2 w m1 c 240 1 d b.len zs)(i:G1 kk d.ownBlock b m1 c w zs)(j:a≤m1)(p:m1≤c)(f:c≤hi)(k:Off g a c):∀{l:Wl}{lo:Nat}{xs:List VL},lo≤a→O5 kk g l lo a w xs→O5 kk g (l.app (.cons ns b .nil)) lo hi w (xs++[e,d])
 |.nil,lo,xs,p1,h=>by
  rw[show xs=[] from h];exact⟨e,d,[],a,m1,c,c,rfl,p1,j,p,Nat.le_refl _,f,k,n,⟨zs,o,i⟩,rfl⟩
 |.cons _ _ _,lo,xs,p1,⟨vn',vb',ys,a',m1',c',m,e1,r1,r2,r3,r4,r5,r6,r7,r8,r9⟩=>by
  rw[e1];exact⟨vn',vb',ys++[e,d],a',m1',c',m,rfl,r1,r2,r3,r4,by omega,r6,r7,r8,O5.snoc n o i j p f k r5 r9⟩
structure PgK (lo hi:Nat)(w:WD)(vs:List Vd)(a:List Nat)(body:Sl)(xs:List VL)(c b:VL):Prop where
 vown:w.ownsRow lo 144 1 c vs.length (A3h a)
 vars:G9 (fun _=>0) lo w vs a
 bown:w.ownsRow lo 240 1 b body.len xs
 body:G1 (kE vs) b.ownBlock body lo hi w xs
def mkB:List UInt8:=[83,76,85,73,67,69]
def A3s (b a:List Int):List Int:=(b.length:Int)::(b++(two a.length++a))
def u8L (l:List Int):List UInt8:=l.map (fun n=>UInt8.ofNat n.toNat)
theorem B0F {l:List Int}(h:∀n∈l,0≤n∧n≤255):O0 l=Lib.byteCells (u8L l):=by unfold O0 Lib.byteCells u8L;rw[List.map_map];apply List.map_congr_left;intro n a;have:=h n a;show Value.int .u8 n=Value.int .u8 (((UInt8.ofNat n.toNat).toNat:Nat):Int);rw[UInt8.toNat_ofNat'];congr 1;omega
def A3E (w w':WD)(lo hi:Nat)(g:Option Nat):Prop:=∀b cur T,T≠9→T≠147→lo≤b→b<hi→g≠some b→w.heap[b]? =some (.cells cur T (0,0))→w'.heap[b]? =w.heap[b]?
theorem A3E.sub {w w':WD}{lo hi lo' hi':Nat}{g g':Option Nat}(h:A3E w w' lo hi g)(k:lo≤lo')(l:hi'≤hi)(d:∀b,lo'≤b→b<hi'→g'≠some b→g≠some b):A3E w w' lo' hi' g':=
 fun b cur T e a f i j c=>h b cur T e a (by omega) (by omega) (d b f i j) c
theorem C2.keep2 {w w':WD}{lo hi T c n:Nat}{v:VL}{xs:List VL}(h:C2 w lo hi T c v n xs)(e:T≠9)(a:T≠147)(k:A3E w w' lo hi none):C2 w' lo hi T c v n xs:=by
 refine⟨⟨h.1.1,?_⟩,h.2⟩;rcases h.1.2 with f|⟨g,cap,cur,rfl,d,b,r⟩
 ·exact .inl f
 ·exact .inr ⟨g,cap,cur,rfl,d,(k g cur T e a d (h.2 g rfl) (by simp) b).trans b,r⟩
theorem E9.keep2 {kk:Ex→Int}{w w':WD}{e:Ex}{lo hi:Nat}{v:VL}(h:E9 kk e lo hi w v)(k:A3E w w' lo hi none):E9 kk e lo hi w' v:=h.keep (fun b cur a c d=>k b cur _ (by decide) (by decide) a c (by simp) d)
mutual
theorem Z9.keep2 {kk:Ex→Int}{w w':WD}:∀{s:Q3}{lo hi:Nat}{v:VL},Z9 kk s lo hi w v→A3E w w' lo hi none→Z9 kk s lo hi w' v
 |.set _ _,_,_,_,⟨ve,e1,h⟩,k=>⟨ve,e1,h.keep2 k⟩
 |.setx _ _ _,_,_,_,⟨vi,ve,m,e1,h1,h2,h3,h4⟩,k=>⟨vi,ve,m,e1,h1,h2,h3.keep2 (k.sub (by omega) (by omega) (by simp)),h4.keep2 (k.sub (by omega) (by omega) (by simp))⟩
 |.ife _ _ _,_,_,_,⟨vc,vt,vo,m1,m2,e1,h1,h2,h3,h4,⟨xs,h5,h6⟩,⟨ys,h7,h8⟩⟩,k=>⟨vc,vt,vo,m1,m2,e1,h1,h2,h3,h4.keep2 (k.sub (by omega) (by omega) (by simp)),⟨xs,h5.keep2 (by decide) (by decide) (k.sub (by omega) (by omega) (by simp)),h6.keep2 (k.sub (by omega) (by omega) (by simp))⟩,⟨ys,h7.keep2 (by decide) (by decide) (k.sub (by omega) (by omega) (by simp)),h8.keep2 (k.sub (by omega) (by omega) (by simp))⟩⟩
 |.cas _ _ _,_,_,_,⟨vc,vt,vo,m1,m2,e1,h1,h2,h3,h4,⟨n,xs,h5,h6⟩,⟨ys,h7,h8⟩⟩,k=>⟨vc,vt,vo,m1,m2,e1,h1,h2,h3,h4.keep2 (k.sub (by omega) (by omega) (by simp)),⟨n,xs,h5.keep2 (by decide) (by decide) (k.sub (by omega) (by omega) (by simp)),h6.keep2 (k.sub (by omega) (by omega) (by simp))⟩,⟨ys,h7.keep2 (by decide) (by decide) (k.sub (by omega) (by omega) (by simp)),h8.keep2 (k.sub (by omega) (by omega) (by simp))⟩⟩
 |.loop _ _ _ _,_,_,_,⟨vb,e1,⟨xs,h5,h6⟩⟩,k=>⟨vb,e1,⟨xs,h5.keep2 (by decide) (by decide) k,h6.keep2 (k.sub (by omega) (by omega) (by simp))⟩⟩
theorem G1.keep2 {kk:Ex→Int}{w w':WD}{g:Option Nat}:∀{l:Sl}{lo hi:Nat}{xs:List VL},G1 kk g l lo hi w xs→A3E w w' lo hi g→G1 kk g l lo hi w' xs
 |.nil,_,_,_,h,_=>h
 |.cons _ _,_,_,_,⟨v,ys,a,b,m,e1,h1,h2,h3,h4,h5,h6,h7⟩,k=>⟨v,ys,a,b,m,e1,h1,h2,h3,h4,h5,h6.keep2 (k.sub (by omega) (by omega) (fun c c1 c2 _ e=>by have:=h5 c e;omega)),h7.keep2 (k.sub (by omega) (by omega) (fun c c1 c2 c3=>c3))⟩
theorem O5.keep2 {kk:Ex→Int}{w w':WD}{g:Option Nat}:∀{l:Wl}{lo hi:Nat}{xs:List VL},O5 kk g l lo hi w xs→A3E w w' lo hi g→O5 kk g l lo hi w' xs
 |.nil,_,_,_,h,_=>h
 |.cons _ _ _,_,_,_,⟨vn,vb,ys,a,m1,c,m,e1,h1,h2,h3,h4,h5,h6,h7,⟨zs,h8,h9⟩,h10⟩,k=>⟨vn,vb,ys,a,m1,c,m,e1,h1,h2,h3,h4,h5,h6,h7.keep2 (by decide) (by decide) (k.sub (by omega) (by omega) (fun d d1 d2 _ e=>by have:=h6 d e;omega)),⟨zs,h8.keep2 (by decide) (by decide) (k.sub (by omega) (by omega) (fun d d1 d2 _ e=>by have:=h6 d e;omega)),h9.keep2 (k.sub (by omega) (by omega) (fun d d1 d2 _ e=>by have:=h6 d e;omega))⟩,h10.keep2 (k.sub (by omega) (by omega) (fun c c1 c2 c3=>c3))⟩
end
theorem Vf.nm {lo:Nat}{w w':WD}(h:Vf lo w w'){bm n:Nat}{f:BA→Option Nat}(a:U0 w bm n f):U0 w' bm n f:=by refine a.keep (h.block bm a.lt (fun cur b=>?_));obtain⟨D,⟨e,c,d,_⟩,_⟩:=a;rw[d] at b;cases b
theorem Vf.more {lo:Nat}{w a w3:WD}(h:Vf lo w a)(f:w3.os=a.os)(i:w3.tape=a.tape)(e:w3.output=a.output)(j:a.heap.size≤w3.heap.size)(d:∀b,b<w.heap.size→w3.heap[b]? =a.heap[b]?):Vf lo w w3:=
 ⟨f.trans h.os,i.trans h.tape,e.trans h.output,Nat.le_trans h.size j,fun b c g=>(d b c).trans (h.block b c g)⟩
theorem A42:Lib.strCells (⟨#[83,76,85,73,67,69]⟩:BA)=Lib.byteCells mkB:=by unfold Lib.strCells Lib.byteCells mkB;rfl
def C0d (vs:List Vd)(f:Nat→List Int):BA:=⟨(mkB++u8L (A3s (B8 vs) (f 0++[0]))).toArray⟩
theorem Kf.below {lo hi:Nat}{w w':WD}(h:Kf lo hi w w')(b:lo≤w.heap.size):Below lo w w':=⟨h.os,h.tape,h.output,h.size,fun k a=>h.block k (by omega) (fun _ _=>.inl a)⟩
theorem Vf.below {lo:Nat}{w w':WD}(h:Vf lo w w')(b:lo≤w.heap.size):Below lo w w':=⟨h.os,h.tape,h.output,h.size,fun k a=>h.block k (by omega) (fun _ _=>a)⟩
section
def ckX (bm:Nat)(lv:VL)(x:Bool)(i:Nat):VL:=if i=0 then .map (some bm) else if i=1 then lv else .bool x
structure G5 (bc bm:Nat)(fst:Nat→Int)(vs:List Vd)(bs:List Nat)(lv:VL)(ls:LB)(x:Bool)(w:WD):Prop where
 ck:w.rowIs bc 149 3 (ckX bm lv x)
 nm:U0 w bm vs.length (M3 vs bs)
 vars:G9 fst 0 w vs bs
 loops:w.ownsRow 0 9 1 lv ls.length (N6 ls)
 names:∀v∈vs,v.name.size≤1000
structure Wx (bc:Nat)(w w':WD):Prop where
 os:w'.os=w.os
 tape:w'.tape=w.tape
 output:w'.output=w.output
 size:w'.heap.size=w.heap.size
 block:∀b,b≠bc→w'.heap[b]? =w.heap[b]?
section
variable {bc bm lo hi:Nat}{fst:Nat→Int}{vs:List Vd}{bs:List Nat}{lv lv':VL}{ls:LB}{x y:Bool}{w w':WD}
theorem Wx.refl:Wx bc w w:=⟨rfl,rfl,rfl,rfl,fun _ _=>rfl⟩
theorem Wx.kc {u:VL}(h:Wx bc w w'):Kc bc lo hi u u w w':=⟨h.os,h.tape,h.output,by rw[h.size];exact Nat.le_refl _,fun b _ a _ _=>h.block b a,.inl rfl⟩
theorem Wx.cell {b i:Nat}{v:VL}(h:Wx bc w w')(c:b≠bc)(d:w.cell? ⟨b,i,none⟩=some v):w'.cell? ⟨b,i,none⟩=some v:=by rw[World.cell?_of_block (w:=w) (a:=⟨b,i,none⟩) (h.block b c)];exact d
theorem Wx.ex {kk:Ex→Int}{e:Ex}{v:VL}(h:Wx bc w w')(a:E9 kk e lo hi w v)(c:hi≤bc):E9 kk e lo hi w' v:=a.keep (fun b _ _ d _=>h.block b (by omega))
theorem G5.ne (h:G5 bc bm fst vs bs lv ls x w){b T:Nat}{cur:Array VL}{fz:Nat×Nat}(d:w.heap[b]? =some (.cells cur T fz))(f:T≠149):b≠bc:=fun e=>by subst e;obtain⟨c,a,_⟩:=h.ck;rw[d] at a;injection a with a;injection a with _ a;exact f a
theorem G5.turn (h:G5 bc bm fst vs bs lv ls x w)(k:Wx bc w w')(f:w'.rowIs bc 149 3 (ckX bm lv y)):G5 bc bm fst vs bs lv ls y w':=by refine⟨f,h.nm.keep (k.block bm (fun e=>?_)),h.vars.keep (fun b _ _ a=>k.block b (h.ne a (by decide))),A2T h.loops (fun b _ a=>k.block b (h.ne a (by decide))),h.names⟩;obtain⟨c,g,_⟩:=h.ck;obtain⟨D,⟨i,j,d,_⟩,_⟩:=h.nm;rw[e,g] at d;cases d
theorem G5.kf (h:G5 bc bm fst vs bs lv ls x w)(k:Kf lo hi w w'):G5 bc bm fst vs bs lv ls x w':=⟨k.row h.ck (by decide),k.nm h.nm,k.vars h.vars,k.own h.loops (by decide),h.names⟩
theorem G5.below (h:G5 bc bm fst vs bs lv ls x w)(k:Below w.heap.size w w'):G5 bc bm fst vs bs lv ls x w':=h.kf (lo:=0) (hi:=0) (Kf.of_below k)
theorem G5.own_ne (h:G5 bc bm fst vs bs lv ls x w){b T:Nat}{cur:Array VL}{fz:Nat×Nat}(f:w.heap[b]? =some (.cells cur T fz))(i:T≠9):lv.ownBlock≠some b:=fun e=>by
 rcases h.loops.2 with ⟨c,_⟩|⟨g,cap,d,c,_,a,_⟩
 ·rw[c] at e;cases e
 ·rw[c] at e;simp only[Value.ownBlock,Option.some.injEq] at e;subst e;rw[f] at a;injection a with a;injection a with _ a;exact i a
theorem Kc.tagX (k:Kc bc lo hi lv lv' w w')(h:G5 bc bm fst vs bs lv ls x w){b T:Nat}{cur:Array VL}{fz:Nat×Nat}(c:w.heap[b]? =some (.cells cur T fz))(f:T≠149)(g:T≠9)(e:T≠351):w'.heap[b]? =w.heap[b]? :=
 k.block b (z0.1 c).1 (h.ne c f) (h.own_ne c g) (fun d a=>by
  rw[c] at a;injection a with a;injection a with _ a;exact absurd a e)
theorem Kc.sameX (k:Kc bc lo hi lv lv' w w')(h:G5 bc bm fst vs bs lv ls x w){lo2 hi2:Nat}{g:Option Nat}(hd:hi≤lo2∨hi2≤lo)(d:hi2≤bc):A02 w w' lo2 hi2 g:=
 fun b cur T c e f _ a=>k.block b (z0.1 a).1 (by omega) (h.own_ne a c) (fun _ _=>by omega)
theorem Kc.below {u:VL}(h:Below w.heap.size w w'):Kc bc lo hi u u w w':=Kc.of_kf (Kf.of_below h)
theorem J3 (h:G5 bc bm fst vs bs lv ls x w)(d:Bool)(R:RP)(c:∀w',G5 bc bm fst vs bs lv ls (x || !d) w'→Wx bc w w'→R (.returned (.tuple #[])) w'):Calls Tryz.prog 69 #[.pointer (some ⟨bc,0,none⟩),.bool d] w R:=by
 cases d with
 |true=>exact B4D w bc R (c w (by rw[Bool.not_true,Bool.or_false];exact h) Wx.refl)
 |false=>
  have k:Wx bc w (w.setCell ⟨bc,2,none⟩ (.bool true)):=⟨rfl,rfl,rfl,World.size_setCell _ _ _,fun b e=>Below.heap_setCell _ _ _ _ e⟩;have a:=c _ (by rw[Bool.not_false,Bool.or_true];exact h.turn k ((h.ck.set 2 (.bool true)).congr (fun i hi=>by have:i=0∨i=1∨i=2:=(by omega);rcases this with rfl|rfl|rfl<;>rfl))) k;have j:=h.ck.frozen 2;have g:w.cell? ⟨bc,2,none⟩=some (.bool x):=h.ck.cell (i:=2) (by omega);have f:=h.ck.lt;replace a:=hd a;replace h:=hd h;clear c;replace k:=hd k;go_enter Tryz.func69,Tryz.ntmps69;go_wp2;go_end0;exact a.out
theorem G5.look (h:G5 bc bm fst vs bs lv ls x w){s:BA}{v:Vd}(e:C1 vs s=some v):∃(i b:Nat),w.rowIs b 147 6 (vdF v (fst i))∧∀W:WD,W.heap[bm]? =w.heap[bm]? →(Instr.lookup 90 (.map (some bm)) (.string s) false).run Tryz.prog W=.ok (.pointer (some ⟨b,0,none⟩)) W:=by obtain⟨i,b,j,l,g⟩:=A3v vs bs s v h.vars.len e;obtain⟨_,a⟩:=h.vars.row i v b j l;obtain⟨f,c⟩:=J0 vs s v e;refine⟨i,b,a,fun W k=>?_⟩;have d:=(h.nm.keep k).look s (by rw[←c];have:=h.names v f;unfold maxLen;omega);rw[g] at d;exact d
end
def S2 (vs:List Vd)(e:Ex):Prop:=∀{bc bm lo hi t:Nat}{fst:Nat→Int}{bs:List Nat}{lv u:VL}{ls:LB}{x:Bool}{w:WD},hi≤bc→G5 bc bm fst vs bs lv ls x w→E9 (fun _=>0) e lo hi w (.iface t u)→∀(R:RP),(∀w' k,G5 bc bm fst vs bs lv ls (x || !N9 vs e) w'→Kc bc lo hi lv lv w w'→(N9 vs e=true→k=kE vs e∧E9 (kE vs) e lo hi w' (.iface t u))→R (.returned (.int .u8 k)) w')→Calls Tryz.prog (kfn e) #[u,.pointer (some ⟨bc,0,none⟩)] w R
end
theorem B32 (B b:Nat)(f:List VL)(w:WD)(h:Lib.BuilderAt 160 5 B b (.pointer (some ⟨b,0,none⟩)) f w)(j:0<f.length)(R:RP)(d:∀w',Lib.BuilderAt 160 5 B b (.pointer (some ⟨b,0,none⟩)) f w'→Below B w w'→R (.returned (.tuple #[.int .i64 0,.nilIface])) w'):Calls Tryz.prog 78 #[.pointer (some ⟨b,0,none⟩),.slice none 0 0] w R:=by have o:=h.cell0;obtain⟨k,v,a,c,r⟩:=h;obtain⟨A,m,rfl,q,l⟩:=H5 c;obtain⟨g,rfl,s,t,n⟩:=l j;have z:w.cell? ⟨b,1,none⟩=some (.slice (some ⟨g,0,none⟩) f.length m):=A1 a rfl;have x:w.frozen? ⟨b,1,none⟩=false:=B2 a;have y:b<w.heap.size:=(z0.1 a).1;have u:=hd c;replace d:=hd d;clear n l;go_enter Tryz.func78,Tryz.ntmps78;go_wp2_with (fail);refine (Any.Builder_copyCheck_used Tryz.bl240 Tryz.Builder_Extra_159.toX72 b w o).mono ?_;rintro e w' ⟨rfl,rfl⟩;have hB:=hd (show Lib.BuilderAt 160 5 B b (.pointer (some ⟨b,0,none⟩)) f (w'.setCell ⟨b,1,none⟩ (.slice (some ⟨g,0,none⟩) f.length m)) from Lib.BuilderAt.put k a u.out (by decide));have i:=hd ((Below.refl B w').setCell (p:=⟨b,1,none⟩) k (.slice (some ⟨g,0,none⟩) f.length m));go_wp2;exact A6 (d.out _ hB.out i.out) rfl
end Go.Proofs.YtidhiaaicmfabaaGreatDoor
