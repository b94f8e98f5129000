/- Texts (its parts, joined). -/
import Derived.Test.YtidhiaaicmfabaaGreatDoorTqAL
import Derived.Maps.OwnSet
import Derived.Maps.Views
import Derived.StringKeys
open List renaming mem_cons_of_mem→z0,mem_cons_self→z1
open Array renaming getElem?_eq_some_iff→z2
open Int renaming le_refl→z3
namespace Go.Proofs.YtidhiaaicmfabaaGreatDoor
open Go.RowKit Go.Proofs Go.Deep
set_option maxRecDepth 100000
set_option maxHeartbeats 4000000
open Go.Maps
def A6P:VL→Option (DataW Unit×List MemPlace)
 |.pointer none=>some (.lit (.int .i64 (-1)),[])
 |.pointer (some ⟨b,0,none⟩)=>some (.lit (.int .i64 (b:Int)),[])
 |_=>none
def A51:Option Nat→DataW Unit
 |none=>.lit (.int .i64 (-1))
 |some b=>.lit (.int .i64 (b:Int))
def A94 (o:Option Nat):VL:=.pointer (o.map (fun b=>⟨b,0,none⟩))
theorem A5o (o:Option Nat):A6P (A94 o)=some (A51 o,[]):=by cases o<;>rfl
theorem A8Q {v:VL}{o:Option Nat}{c:List MemPlace}(h:A6P v=some (A51 o,c)):v=A94 o:=by
 unfold A6P at h;split at h
 ·injection h with h;injection h with a _;cases o with
  |none=>rfl
  |some b=>
   simp only[A51] at a;injection a with a;injection a with _ a;omega
 ·injection h with h;injection h with a _;cases o with
  |none=>
   simp only[A51] at a;injection a with a;injection a with _ a;omega
  |some b=>
   simp only[A51] at a;injection a with a;injection a with _ a;unfold A94;rw[←show _=b from Int.ofNat.inj a];rfl
 ·cases h
def U0 (w:WD)(bm n:Nat)(f:BA→Option Nat):Prop:=
 ∃D:DataW Unit,w.ownsMap Tryz.prog 9 A6P bm n D∧∀s:BA,s.size≤maxLen→D.atKey (.string s.data.toList) (A51 none)=A51 (f s)
theorem B2Y:Keyed Tryz.prog 9:=string_keyed Tryz.underlying9
theorem B5l:Tryz.prog.underlying 90=some (.map 9 144):=by kernel_rfl
theorem B4h (w:WD):(zeroValue 144).run Tryz.prog w=.ok (.pointer none) w:=by kernel_rfl
theorem U0.made (w:WD):U0 (w.alloc (.map #[] 0)) w.heap.size 0 (fun _=>none):=⟨.map [],World.ownsMap_made _ _ _ _,fun _ _=>rfl⟩
theorem U0.look {w:WD}{bm n:Nat}{f:BA→Option Nat}(h:U0 w bm n f)(s:BA)(c:s.size≤maxLen):(Instr.lookup 90 (.map (some bm)) (.string s) false).run Tryz.prog w=.ok (A94 (f s)) w:=by obtain⟨D,e,d⟩:=h;obtain⟨v,g,a,b⟩:=e.lookup B2Y B5l (B4h w) (A5o none) (WideMaps.keyOf_string_mk Tryz.underlying9 c);rw[d s c] at b;rw[a,A8Q b]
theorem U0.lt {w:WD}{bm n:Nat}{f:BA→Option Nat}(h:U0 w bm n f):bm<w.heap.size:=by obtain⟨D,a,_⟩:=h;exact a.lt
theorem U0.keep {w w':WD}{bm n:Nat}{f:BA→Option Nat}(h:U0 w bm n f)(a:w'.heap[bm]? =w.heap[bm]?):U0 w' bm n f:=by obtain⟨D,⟨e,c,d,g⟩,b⟩:=h;exact⟨D,⟨e,c,a.trans d,g⟩,b⟩
theorem B4x {s t:BA}(h:s≠t):s.data.toList≠t.data.toList:=fun e=>h (by cases s;cases t;simp only at e;congr 1;exact Array.toList_inj.1 e)
theorem U0.put {w:WD}{bm n:Nat}{f:BA→Option Nat}(h:U0 w bm n f)(j:n<maxLen)(s:BA)(l:s.size≤maxLen)(b:Nat):∃w',(Instr.mapUpdate 90 (.map (some bm)) (.string s) (.pointer (some ⟨b,0,none⟩))).run Tryz.prog w=.ok () w'∧U0 w' bm (n+1) (fun t=>if t=s then some b else f t)∧w.grownBy w' (some bm):=by
 obtain⟨D,d,g⟩:=h;obtain⟨w',a,k,m⟩:=d.update B2Y B5l j (WideMaps.keyOf_string_mk Tryz.underlying9 l) (A5o (some b));refine⟨w',a,⟨_,k,fun t i=>?_⟩,m⟩;by_cases e:t=s
 ·subst e;show _=A51 (if t=t then some b else f t);rw[if_pos rfl];exact atKey_put_same d.isMap (by simp[WideAt.IsKeyLit]) _ _
 ·show _=A51 (if t=s then some b else f t);rw[if_neg e,atKey_put_other (fun c=>by injection c with c;exact B4x e c)];exact g t i
def M3:List Vd→List Nat→BA→Option Nat
 |v::vs,b::bs,s=>if s=v.name then some b else M3 vs bs s
 |_,_,_=>none
theorem A2M:∀(vs:List Vd) (a:List Nat) (s:BA),(∀v∈vs,s≠v.name)→M3 vs a s=none
 |[],_,_,_=>rfl
 |_::_,[],_,_=>rfl
 |v::vs,b::a,s,h=>by
  simp only[M3];rw[if_neg (h v (z1 ..)),A2M vs a s (fun u c=>h u (z0 _ c))]
theorem A4U:∀(vs:List Vd) (a:List Nat) (v:Vd) (b:Nat) (s:BA),a.length=vs.length→(∀u∈vs,v.name≠u.name)→M3 (vs++[v]) (a++[b]) s=if s=v.name then some b else M3 vs a s
 |[],[],v,b,s,_,_=>rfl
 |[],_::_,_,_,_,h,_=>by simp at h
 |_::_,[],_,_,_,h,_=>by simp at h
 |u::vs,c::a,v,b,s,h,hn=>by
  simp only[List.cons_append,M3];rw[A4U vs a v b s (by simpa using h) (fun x d=>hn x (z0 _ d))];by_cases e:s=u.name
  ·rw[if_pos e,if_neg (fun f=>hn u (z1 ..) (f.symm.trans e)),if_pos e]
  ·simp only[if_neg e]
theorem A4c:∀(vs:List Vd) (a:List Nat) (s:BA),a.length=vs.length→(∃v∈vs,s=v.name)→∃b,M3 vs a s=some b
 |[],_,_,_,h=>by obtain⟨v,f,_⟩:=h;simp at f
 |_::_,[],_,h,_=>by simp at h
 |v::vs,b::a,s,h,hx=>by
  simp only[M3];by_cases e:s=v.name
  ·exact⟨b,if_pos e⟩
  ·rw[if_neg e];refine A4c vs a s (by simpa using h) ?_;obtain⟨u,c,d⟩:=hx;rcases List.mem_cons.1 c with rfl|c
   ·exact absurd d e
   ·exact⟨u,c,d⟩
theorem X9 {α:Type}{l:List α}{i:Nat}{x:α}(h:l[i]? =some x):l.take (i+1)=l.take i++[x]:=by rw[List.take_add_one,h];rfl
theorem B0M:∀(w:WD),(Instr.makeMap 90 none).run Tryz.prog w=.ok (.map (some w.heap.size)) (w.alloc (.map #[] 0)):=fun w=>by kernel_rfl
section
def C1:List Vd→BA→Option Vd
 |[],_=>none
 |v::vs,s=>if s=v.name then some v else C1 vs s
theorem A3v:∀(vs:List Vd) (d:List Nat) (s:BA) (v:Vd),d.length=vs.length→C1 vs s=some v→∃(i b:Nat),vs[i]? =some v∧d[i]? =some b∧M3 vs d s=some b
 |[],_,_,_,_,h=>by simp[C1] at h
 |_::_,[],_,_,h,_=>by simp at h
 |u::vs,b::d,s,v,h,a=>by
  simp only[C1] at a;simp only[M3];by_cases e:s=u.name
  ·rw[if_pos e] at a;injection a with a;subst a;exact⟨0,b,rfl,rfl,if_pos e⟩
  ·rw[if_neg e] at a;obtain⟨i,c,g,j,f⟩:=A3v vs d s v (by simpa using h) a;exact⟨i+1,c,by simpa using g,by simpa using j,by rw[if_neg e];exact f⟩
structure Kf (lo hi:Nat)(w w':WD):Prop where
 os:w'.os=w.os
 tape:w'.tape=w.tape
 output:w'.output=w.output
 size:w.heap.size≤w'.heap.size
 block:∀b,b<w.heap.size→(∀cur,w.heap[b]? =some (.cells cur 351 (0,0))→b<lo∨hi≤b)→w'.heap[b]? =w.heap[b]?
section
variable {lo hi:Nat}{w w' w'':WD}
theorem Kf.refl (lo hi:Nat)(w:WD):Kf lo hi w w:=⟨rfl,rfl,rfl,Nat.le_refl _,fun _ _ _=>rfl⟩
theorem Kf.of_below (h:Below w.heap.size w w'):Kf lo hi w w':=⟨h.os,h.tape,h.output,h.size,fun b a _=>h.block b a⟩
theorem Kf.tag (h:Kf lo hi w w'){b T:Nat}{cur:Array VL}{fz:Nat×Nat}(a:w.heap[b]? =some (.cells cur T fz))(f:T≠351):w'.heap[b]? =w.heap[b]? :=
 h.block b (z2.1 a).1 (fun c d=>by
  rw[a] at d;injection d with e;injection e with _ g;exact absurd g f)
theorem Kf.row (h:Kf lo hi w w'){b T n:Nat}{f:Nat→VL}(e:w.rowIs b T n f)(d:T≠351):w'.rowIs b T n f:=by obtain⟨c,a,r⟩:=e;exact⟨c,(h.tag a d).trans a,r⟩
theorem Kf.own (h:Kf lo hi w w'){a T b n:Nat}{v:VL}{xs:List VL}(d:w.ownsRow a T b v n xs)(c:T≠351):w'.ownsRow a T b v n xs:=A2T d (fun _ _ e=>h.tag e c)
theorem Kf.nm (h:Kf lo hi w w'){bm n:Nat}{f:BA→Option Nat}(a:U0 w bm n f):U0 w' bm n f:=by refine a.keep (h.block bm a.lt (fun cur b=>?_));obtain⟨D,⟨e,c,d,_⟩,_⟩:=a;rw[d] at b;cases b
theorem Kf.vars (h:Kf lo hi w w'){a:Nat→Int}{l:Nat}{vs:List Vd}{b:List Nat}(c:G9 a l w vs b):G9 a l w' vs b:=c.keep (fun _ _ _ d=>h.tag d (by decide))
end
theorem B4D (w:WD)(bc:Nat)(R:RP)(a:R (.returned (.tuple #[])) w):Calls Tryz.prog 69 #[.pointer (some ⟨bc,0,none⟩),.bool true] w R:=by replace a:=hd a;go_enter Tryz.func69,Tryz.ntmps69;go_wp2;go_end0;exact a.out
theorem J0:∀(vs:List Vd) (s:BA) (v:Vd),C1 vs s=some v→v∈vs∧v.name=s
 |[],_,_,h=>by simp[C1] at h
 |u::vs,s,v,h=>by
  simp only[C1] at h;by_cases e:s=u.name
  ·rw[if_pos e] at h;injection h with h;subst h;exact⟨z1 ..,e.symm⟩
  ·rw[if_neg e] at h;exact⟨z0 _ (J0 vs s v h).1,(J0 vs s v h).2⟩
end
def kE (vs:List Vd):Ex→Int
 |.lit n=>if -32768≤n∧n≤32767 then 1 else 2
 |.tru _=>0
 |.plc s=>match C1 vs s with|some v=>(v.kind:Int)|none=>0
 |.idx s _=>match C1 vs s with|some v=>(v.kind:Int)|none=>0
 |.bin o l r=>if opF o=0 then max (kE vs l) (kE vs r) else 0
 |.neg _=>0
 |.sho _=>1
 |.dly _ _ _=>0
def B9 (k:Int):Bool:=k==1||k==2
def N9 (vs:List Vd):Ex→Bool
 |.lit n=>decide (-2147483648≤n)&&decide (n≤2147483647)
 |.tru _=>true
 |.plc s=>match C1 vs s with|some v=> !v.arr|none=>false
 |.idx s i=>(match C1 vs s with|some v=>v.arr|none=>false)&&N9 vs i&&B9 (kE vs i)
 |.bin o l r=>N9 vs l&&N9 vs r&&decide (o<9)&&(if opF o=0∨opF o=2 then B9 (kE vs l)&&B9 (kE vs r) else if opF o=1 then (B9 (kE vs l)&&B9 (kE vs r))||(kE vs l==0&&kE vs r==0) else kE vs l==0&&kE vs r==0)
 |.neg e=>N9 vs e&&kE vs e==0
 |.sho e=>N9 vs e&&B9 (kE vs e)
 |.dly t a s=>(match C1 vs t with|some v=>v.kind==3|none=>false)&&N9 vs a&&kE vs a==0&&N9 vs s&&B9 (kE vs s)
def kfn:Ex→Nat
 |.lit _=>332
 |.tru _=>335
 |.plc _=>308
 |.idx _ _=>308
 |.bin _ _ _=>344
 |.neg _=>338
 |.sho _=>341
 |.dly _ _ _=>347
structure B0X (name:String)(t:Nat)(u:VL)(F:Nat):Prop where
 m:∀w,(method 505 t u name).run Tryz.prog w=.ok (F,u) w
 c:∀args w,(callFunc F args).run Tryz.prog w=.ok (.enter F args) w
theorem R1 {kk:Ex→Int}{e:Ex}{lo hi t:Nat}{w:WD}{u:VL}(h:E9 kk e lo hi w (.iface t u)):B0X "sluice/sluice.kindIn" t u (kfn e):=by
 cases e with
 |lit n=>injection h with d f;subst d;exact⟨fun _=>by kernel_rfl,fun _ _=>by kernel_rfl⟩
 |tru n=>injection h with d f;subst d;exact⟨fun _=>by kernel_rfl,fun _ _=>by kernel_rfl⟩
 |plc n=>injection h with d f;subst d;exact⟨fun _=>by kernel_rfl,fun _ _=>by kernel_rfl⟩
 |idx s i=>obtain⟨_,h,_⟩:=h;injection h with d f;subst d;exact⟨fun _=>by kernel_rfl,fun _ _=>by kernel_rfl⟩
 |bin o l r=>obtain⟨_,_,_,h,_⟩:=h;injection h with d f;subst d;exact⟨fun _=>by kernel_rfl,fun _ _=>by kernel_rfl⟩
 |neg e=>obtain⟨_,h,_⟩:=h;injection h with d f;subst d;exact⟨fun _=>by kernel_rfl,fun _ _=>by kernel_rfl⟩
 |sho e=>obtain⟨_,h,_⟩:=h;injection h with d f;subst d;exact⟨fun _=>by kernel_rfl,fun _ _=>by kernel_rfl⟩
 |dly a b c=>obtain⟨_,_,_,h,_⟩:=h;injection h with d f;subst d;exact⟨fun _=>by kernel_rfl,fun _ _=>by kernel_rfl⟩
theorem E9.kf {kk:Ex→Int}{e:Ex}{lo hi lo2 hi2:Nat}{w w':WD}{v:VL}(h:E9 kk e lo2 hi2 w v)(k:Kf lo hi w w')(hd:hi≤lo2∨hi2≤lo):E9 kk e lo2 hi2 w' v:=
 h.keep (fun b cur c d a=>k.block b (z2.1 a).1 (fun _ _=>by omega))
theorem Q1 (w:WD)(k:Int)(R:RP)(a:R (.returned (.bool (B9 k))) w):Calls Tryz.prog 299 #[.int .u8 k] w R:=by
 unfold B9 at a;replace a:=hd a;by_cases h:k=1
 ·subst h;go_enter Tryz.func299,Tryz.ntmps299;go_wp2;exact A6 a.out rfl
 ·have b:(k==1)=false:=(by simpa using h);go_enter Tryz.func299,Tryz.ntmps299;go_wp2;exact A6 a.out (by rw[b];rfl)
theorem Kf.set {lo hi:Nat}{w w':WD}(h:Kf lo hi w w'){b:Nat}{cur:Array VL}(d:w.heap[b]? =some (.cells cur 351 (0,0)))(g:lo≤b)(j:b<hi)(i:Nat)(v:VL):Kf lo hi w (w'.setCell ⟨b,i,none⟩ v):=
 ⟨h.os,h.tape,h.output,by rw[World.size_setCell];exact h.size,fun c f a=>by
  by_cases e:c=b
  ·subst e;have:=a cur d;omega
  ·exact (Below.heap_setCell _ _ _ _ e).trans (h.block c f a)⟩
theorem B1m {vs:List Vd}{o:Nat}{l r:Ex}:kE vs (.bin o l r)=if opF o=0 then max (kE vs l) (kE vs r) else 0:=rfl
theorem E9.drew {kk:Ex→Int}{e:Ex}{lo hi:Nat}{w:WD}{v:VL}(h:E9 kk e lo hi w v):E9 kk e lo hi w.drew v:=h.keep (fun _ _ _ _ _=>rfl)
theorem B5H {s t:BA}(h:s≠t):(s.toList==t.toList)=false:=beq_eq_false_iff_ne.2 (fun e=>h (by rw[ByteArray.toList_eq,ByteArray.toList_eq] at e;cases s;cases t;congr 1;exact Array.toList_inj.1 e))
def A5B (vs:List Vd)(ls:LB)(s:BA)(e:Ex):Bool:=
 match C1 vs s with
 |some v=> !v.arr&&N9 vs e&&(decide (kE vs e=(v.kind:Int))||(decide (kE vs e=1)&&decide (v.kind=2)))&&decide (v.kind≠3)&&decide (v.role≠0) && !(ls.any (fun x=>decide (s=x)))
 |none=>false
def sfn:Q3→Nat
 |.set _ _=>310
 |.setx _ _ _=>310
 |.ife _ _ _=>315
 |.cas _ _ _=>319
 |.loop _ _ _ _=>325
theorem A82 {kk:Ex→Int}{s:Q3}{lo hi t:Nat}{w:WD}{u:VL}(h:Z9 kk s lo hi w (.iface t u)):B0X "sluice/sluice.check" t u (sfn s):=by
 cases s with
 |set n e=>obtain⟨_,h,_⟩:=h;injection h with f g;subst f;exact⟨fun _=>by kernel_rfl,fun _ _=>by kernel_rfl⟩
 |setx n i e=>obtain⟨_,_,_,h,_⟩:=h;injection h with f g;subst f;exact⟨fun _=>by kernel_rfl,fun _ _=>by kernel_rfl⟩
 |ife c a b=>obtain⟨_,_,_,_,_,h,_⟩:=h;injection h with f g;subst f;exact⟨fun _=>by kernel_rfl,fun _ _=>by kernel_rfl⟩
 |cas c a b=>obtain⟨_,_,_,_,_,h,_⟩:=h;injection h with f g;subst f;exact⟨fun _=>by kernel_rfl,fun _ _=>by kernel_rfl⟩
 |loop c a b d=>obtain⟨_,h,_⟩:=h;injection h with f g;subst f;exact⟨fun _=>by kernel_rfl,fun _ _=>by kernel_rfl⟩
theorem Sl.len_app:∀a b:Sl,(a.app b).len=a.len+b.len
 |.nil,b=>by simp only[Sl.app,Sl.len];omega
 |.cons _ t,b=>by simp only[Sl.app,Sl.len,Sl.len_app t b];omega
def wtV (v:Vd):Bool:=(decide (v.kind≠3)||decide (v.role=2))&&decide (1≤v.len)&&decide (v.len≤16)
def cE:Ex→Int
 |.lit _=>1
 |.tru _=>1
 |.plc _=>1
 |.idx _ i=>1+cE i
 |.bin _ l r=>1+cE l+cE r
 |.neg e=>1+cE e
 |.sho e=>1+cE e
 |.dly _ a s=>1+cE a+cE s
theorem B5:∀e:Ex,1≤cE e
 |.lit _=>z3 _
 |.tru _=>z3 _
 |.plc _=>z3 _
 |.idx _ i=>by have:=B5 i;simp only[cE];omega
 |.bin _ l r=>by have:=B5 l;have:=B5 r;simp only[cE];omega
 |.neg e=>by have:=B5 e;simp only[cE];omega
 |.sho e=>by have:=B5 e;simp only[cE];omega
 |.dly _ a s=>by have:=B5 a;have:=B5 s;simp only[cE];omega
def cfn:Ex→Nat
 |.lit _=>331
 |.tru _=>334
 |.plc _=>307
 |.idx _ _=>307
 |.bin _ _ _=>343
 |.neg _=>337
 |.sho _=>340
 |.dly _ _ _=>346
theorem P5 {kk:Ex→Int}{e:Ex}{lo hi t:Nat}{w:WD}{u:VL}(h:E9 kk e lo hi w (.iface t u)):B0X "sluice/sluice.cost" t u (cfn e):=by
 cases e with
 |lit n=>injection h with d f;subst d;exact⟨fun _=>by kernel_rfl,fun _ _=>by kernel_rfl⟩
 |tru n=>injection h with d f;subst d;exact⟨fun _=>by kernel_rfl,fun _ _=>by kernel_rfl⟩
 |plc n=>injection h with d f;subst d;exact⟨fun _=>by kernel_rfl,fun _ _=>by kernel_rfl⟩
 |idx s i=>obtain⟨_,h,_⟩:=h;injection h with d f;subst d;exact⟨fun _=>by kernel_rfl,fun _ _=>by kernel_rfl⟩
 |bin o l r=>obtain⟨_,_,_,h,_⟩:=h;injection h with d f;subst d;exact⟨fun _=>by kernel_rfl,fun _ _=>by kernel_rfl⟩
 |neg e=>obtain⟨_,h,_⟩:=h;injection h with d f;subst d;exact⟨fun _=>by kernel_rfl,fun _ _=>by kernel_rfl⟩
 |sho e=>obtain⟨_,h,_⟩:=h;injection h with d f;subst d;exact⟨fun _=>by kernel_rfl,fun _ _=>by kernel_rfl⟩
 |dly a b c=>obtain⟨_,_,_,h,_⟩:=h;injection h with d f;subst d;exact⟨fun _=>by kernel_rfl,fun _ _=>by kernel_rfl⟩
def J7 (kk:Ex→Int)(e:Ex):Prop:=∀{lo hi t:Nat}{u:VL}{w:WD},E9 kk e lo hi w (.iface t u)→hi≤w.heap.size→cE e≤100000→∀(R:RP),(∀w',Below w.heap.size w w'→R (.returned (.int .i64 (cE e))) w')→Calls Tryz.prog (cfn e) #[u] w R
theorem E9.below {kk:Ex→Int}{e:Ex}{lo hi:Nat}{w w':WD}{v:VL}(h:E9 kk e lo hi w v)(a:Below w.heap.size w w')(c:hi≤w.heap.size):E9 kk e lo hi w' v:=h.keep (fun b _ _ d _=>a.block b (by omega))
theorem A3N (w:WD)(s:BA)(R:RP)(a:∀w',Below w.heap.size w w'→R (.returned (.int .i64 1)) w'):Calls Tryz.prog 307 #[.agg #[.string s,.nilIface]] w R:=by replace a:=hd a;go_enter Tryz.func307,Tryz.ntmps307;go_wp2;exact A6 (a.out _ ((Below.refl _ w).alloc (Nat.le_refl _) _)) rfl
theorem B2d {kk:Ex→Int}{s:BA}:J7 kk (.plc s):=by intro lo hi t u w d e f R a;injection d with b c;subst b c;exact A3N w s R a
theorem B1B {kk:Ex→Int}{o:Nat}{l r:Ex}(z:J7 kk l)(B:J7 kk r):J7 kk (.bin o l r):=by
 intro lo hi t u w M A O R g;obtain⟨b,U,Q,D,K,L,a,e,f⟩:=M;injection D with J H;subst J H;obtain⟨tl,j,rfl⟩:=e.iface;obtain⟨tr,s,rfl⟩:=f.iface;have q:=P5 e;have m:=P5 f;have E:=q.m;have N:=q.c;have I:=m.m;have F:=m.c;have x:w.cell? ⟨b,0,none⟩=some (.iface tl j):=a.cell (i:=0) (by omega);have y:w.cell? ⟨b,1,none⟩=some (.iface tr s):=a.cell (i:=1) (by omega);simp only[cfn];simp only[cE] at g O;have S:=B5 l;have P:=B5 r;have C0:=hd (fun (W:WD)=>@z lo b tl j W);have C:=hd (fun (W:WD)=>@B (b+1) hi tr s W);have c:=a.lt;replace g:=hd g;replace e:=hd e;replace f:=hd f;replace a:=hd a;clear z B q m;generalize cE l=kl at*;generalize cE r=kr at*;generalize cfn l=FL at*;generalize cfn r=FR at*;have n:kl≤100000:=(by omega);have k:kr≤100000:=(by omega);have v:b≤w.heap.size:=(by omega);have V:IntKind.i64.wrap (1+kl)=1+kl:=IntWalk.i64_in _ (by omega);have T:IntKind.i64.wrap (1+kl+kr)=1+kl+kr:=IntWalk.i64_in _ (by omega);go_enter Tryz.func343,Tryz.ntmps343;go_wp2_with (fail);go_region_held3 (fun w'=>w'.cell? ⟨b,0,none⟩=some (.iface tl j)∧w'.cell? ⟨b,1,none⟩=some (.iface tr s)) (first|exact⟨(d.out.cell (p:=⟨b,0,none⟩) c).trans x,(d.out.cell (p:=⟨b,1,none⟩) c).trans y⟩|exact⟨(h.out.cell (p:=⟨b,0,none⟩) (Nat.lt_of_lt_of_le c d.out.size)).trans ((d.out.cell (p:=⟨b,0,none⟩) c).trans x),(h.out.cell (p:=⟨b,1,none⟩) (Nat.lt_of_lt_of_le c d.out.size)).trans ((d.out.cell (p:=⟨b,1,none⟩) c).trans y)⟩|go_keep)
  (first
   |(refine C0.out _ (by exact e.out.drew) (by exact v) n _ ?_;intro w1 d;replace d:=hd d)
   |(refine C.out _ (by exact f.out.drew.below d.out A) (by exact Nat.le_trans A d.out.size) k _ ?_;intro G h;replace h:=hd h))
 have hB:=hd (show Below w.heap.size w G from (below_drewN (Below.refl _ w) 1).trans (d.out.trans (h.out.mono d.out.size)));go_wp2;first|exact A6 (g.out _ hB.out) rfl|(go_ret;exact A6 (g.out _ hB.out) rfl)
end Go.Proofs.YtidhiaaicmfabaaGreatDoor
