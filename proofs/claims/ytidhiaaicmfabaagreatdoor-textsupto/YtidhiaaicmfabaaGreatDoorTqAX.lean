/- Texts (its parts, joined). -/
import Derived.Test.YtidhiaaicmfabaaGreatDoorTqAP
import Derived.Test.YtidhiaaicmfabaaGreatDoorTqAK
open Nat renaming le_of_eq→z6,le_refl→z8,lt_of_lt_of_le→y1,le_trans→y2
open Array renaming getElem?_eq_some_iff→y0
namespace Go.Proofs.YtidhiaaicmfabaaGreatDoor
open Go.RowKit Go.Proofs Go.Deep
set_option maxRecDepth 100000
set_option maxHeartbeats 4000000
open World renaming cell?_of_block→z0,cell?_setCell_other→z2,cell?_setCell_same→z4,size_setCell→z5,block_lt_of_cell?→z7
open Below renaming heap_setCell→z3,heap_alloc→z9
section
structure Er (bp:Nat)(w:WD):Prop where
 e1:∃a,w.cell? ⟨1,0,none⟩=some a∧(a=.nilIface∨∃b c,a=.iface b c)
 e2:∃a,w.cell? ⟨2,0,none⟩=some a∧(a=.nilIface∨∃b c,a=.iface b c)
 n1:bp≠1
 n2:bp≠2
theorem Er.below {bp:Nat}{w w':WD}(h:Er bp w)(a:Below w.heap.size w w'):Er bp w':=by obtain⟨⟨e,c,j⟩,⟨f,b,g⟩,i,d⟩:=h;exact⟨⟨e,(a.cell (p:=⟨1,0,none⟩) (z7 w _ c)).trans c,j⟩,⟨f,(a.cell (p:=⟨2,0,none⟩) (z7 w _ b)).trans b,g⟩,i,d⟩
theorem Er.fu {bp B:Nat}{uv b:VL}{w w':WD}(h:Er bp w)(c:Fu bp uv b w w')(hB:4<B)(d:∀g,uv.ownBlock=some g→B≤g):Er bp w':=by
 obtain⟨⟨e,l,n⟩,⟨f,j,m⟩,i,k⟩:=h;refine⟨⟨e,?_,n⟩,⟨f,?_,m⟩,i,k⟩
 ·rw[z0 (w:=w) (a:=⟨1,0,none⟩) (c.block 1 (z7 w _ l) (Ne.symm i) (fun e=>by have:=d 1 e;omega))];exact l
 ·rw[z0 (w:=w) (a:=⟨2,0,none⟩) (c.block 2 (z7 w _ j) (Ne.symm k) (fun e=>by have:=d 2 e;omega))];exact j
theorem Ps.er {B bp:Nat}{pv:VL}{L:LB}{k:Nat}{d:Int}{us:LB}{uv a:VL}{w w':WD}(b:Ps B bp pv L k d us uv w)(h:Er bp w)(c:Fu bp uv a w w'):Er bp w':=h.fu c b.opB.1 (fun g e=>(b.own.lt g e).1)
theorem Pn.er {B bp:Nat}{pv:VL}{L:LB}{d:Int}{us:LB}{uv a:VL}{w w':WD}(b:Pn B bp pv L d us uv w)(h:Er bp w)(c:Fu bp uv a w w'):Er bp w':=h.fu c b.opB.1 (fun g e=>(b.own.lt g e).1)
def Y1 (s:BA):Int:=match Lib.parseIntB 64 s.data.toList with | .ok v=>v | .syntax=>0 | .range=>Lib.intSat 64 s.data.toList
theorem A1i {bp:Nat}(w:WD)(s:BA)(h:s.size≤100000)(g:Er bp w)(R:RP)(a:∀w' c,Below w.heap.size w w'→R (.returned (.tuple #[.int .i64 (Y1 s),c])) w'):Calls Tryz.prog 222 #[.string s,.int .i64 10,.int .i64 64] w R:=by
 cases e:Lib.parseIntB 64 s.data.toList with
 |ok v=>
  have b:Y1 s=v:=(by unfold Y1;rw[e]);refine (Tryz.strconv_ParseInt_10_at64_ok s (by omega) v e w).mono ?_;rintro x w' ⟨rfl,hw⟩;rw[←b];exact a _ _ (A7M hw)
 | «syntax» =>
  have b:Y1 s=0:=(by unfold Y1;rw[e]);obtain⟨c,d,f⟩:=g.e1;refine (Any.strconv_ParseInt_10_at64_syntax Tryz.laysC174 s (by omega) e c w d f).mono ?_;rintro x w' ⟨N,rfl,_,_,hb⟩;rw[←b];exact a _ _ hb
 |range=>
  have b:Y1 s=Lib.intSat 64 s.data.toList:=(by unfold Y1;rw[e]);obtain⟨c,d,f⟩:=g.e2;refine (Any.strconv_ParseInt_10_at64_range Tryz.laysC174 s (by omega) e c w d f).mono ?_;rintro x w' ⟨N,rfl,_,_,hb⟩;rw[←b];exact a _ _ hb
def Y8 (s:BA):Bool:=decide (s.size≠0)&&I4 (bt s 0)
theorem B2u {s:BA}(h:Y8 s=false):s.size=0∨I4 (bt s 0)=false:=by
 unfold Y8 at h;by_cases a:s.size=0
 ·exact .inl a
 ·right;simpa[a] using h
theorem A2g {s:BA}(h:Y8 s=true):s.size≠0∧I4 (bt s 0)=true:=by unfold Y8 at h;simpa using h
section
variable {B bp:Nat}{pv:VL}{L:LB}{k:Nat}{d:Int}{us:LB}{uv:VL}{w:WD}
theorem B3Y (h:(A0 L k).size≠0):k<L.length:=by
 by_cases a:k<L.length
 ·exact a
 ·rw[G7 a] at h;exact absurd rfl h
theorem B8U (h:Pn B bp pv L d us uv w)(R:RP)(a:∀w',Pn B bp pv L d us uv w'→Fu bp uv uv w w'→R (.returned (.string ⟨#[]⟩)) w'):Calls Tryz.prog 220 #[.pointer (some ⟨bp,0,none⟩),.func (.func 223) #[] #[]] w R:=by have f:=A2z;replace a:=hd a;go_enter Tryz.func220,Tryz.ntmps220;go_wp2_with (fail);refine A7V h _ ?_;intro w1 i b;replace b:=hd b;go_wp2_with (fail);refine A0L _ ⟨#[]⟩ (.inl rfl) _ ?_;go_wp2_with (fail);refine A4P i _ ?_;intro j c e;have g:=hd (b.out.trans e);replace c:=hd c;clear b e;go_wp2;exact A6 (a.out _ c.out g.out) rfl
theorem B8D (h:Ps B bp pv L k d us uv w)(R:RP)(c:Y8 (A0 L k)=true→∀w',Ps B bp pv L (k+1) d us uv w'→Fu bp uv uv w w'→R (.returned (.string (A0 L k))) w')(g:Y8 (A0 L k)=false→∀w',Pn B bp pv L d us uv w'→Fu bp uv uv w w'→R (.returned (.string ⟨#[]⟩)) w'):Calls Tryz.prog 220 #[.pointer (some ⟨bp,0,none⟩),.func (.func 223) #[] #[]] w R:=by
 cases e:Y8 (A0 L k) with
 |true=>
  obtain⟨m,p⟩:=A2g e;exact A8d _ h.pa (B3Y m) m p _ (fun w' f j=>c e w' (h.only f j (by omega)) (Fu.of_only j))
 |false=>
  have n:=A2z;have a:=B2u e;replace g:=hd (g e);go_enter Tryz.func220,Tryz.ntmps220;go_wp2_with (fail);refine A7c h _ ?_;intro w1 f b;replace b:=hd b;generalize A0 L k=s at*;replace a:=hd a;go_wp2_with (fail);refine A0L _ s a.out _ ?_;go_wp2_with (fail);refine A4R f _ ?_;intro q i l;have o:=hd (b.out.trans l);replace i:=hd i;clear b l;go_wp2;exact A6 (g.out _ i.out o.out) rfl
theorem B9c (h:Pn B bp pv L d us uv w)(k:Er bp w)(e:BA)(i:e.size≤1)(R:RP)(a:∀w' n,Pn B bp pv L d us uv w'→Fu bp uv uv w w'→R (.returned (.int .i64 n)) w'):Calls Tryz.prog 198 #[.pointer (some ⟨bp,0,none⟩),.string e] w R:=by replace a:=hd a;go_enter Tryz.func198,Tryz.ntmps198;go_wp2_with (fail);refine B8U h _ ?_;intro w1 g b;have f:=h.er k b;have m:(e++(⟨#[]⟩:BA)).size≤100000:=(by rw[ByteArray.size_append];have:(⟨#[]⟩:BA).size≤1:=(by decide);omega);replace b:=hd b;go_wp2_with (fail);refine A1i _ _ m f _ ?_;intro o p c;generalize Y1 (e++(⟨#[]⟩:BA))=n;have l:=hd (g.only (g.pa.below c) (A8.of_below c));have j:=hd (b.out.trans (Fu.of_below c));clear c b g;go_wp2;exact A6 (a.out _ n l.out j.out) rfl
theorem B6Z (q:A0f L)(h:Ps B bp pv L k d us uv w)(p:Er bp w)(g:BA)(t:g.size≤1)(R:RP)(b:Y8 (A0 L k)=true→∀w',Ps B bp pv L (k+1) d us uv w'→Fu bp uv uv w w'→R (.returned (.int .i64 (Y1 (g++A0 L k)))) w')(j:Y8 (A0 L k)=false→∀w' n,Pn B bp pv L d us uv w'→Fu bp uv uv w w'→R (.returned (.int .i64 n)) w'):Calls Tryz.prog 198 #[.pointer (some ⟨bp,0,none⟩),.string g] w R:=by
 have v:=(q.next k).2;replace b:=hd b;replace j:=hd j;go_enter Tryz.func198,Tryz.ntmps198;go_wp2_with (fail);refine B8D h _ ?_ ?_
 ·intro e w1 i a;have f:=h.er p a;replace b:=hd (b.out e);generalize A0 L k=s at*;have o:(g++s).size≤100000:=(by rw[ByteArray.size_append];omega);replace a:=hd a;go_wp2_with (fail);refine A1i _ _ o f _ ?_;intro u r c;generalize Y1 (g++s)=n at*;have m:=hd (i.only (i.pa.below c) (A8.of_below c) (z8 _));have l:=hd (a.out.trans (Fu.of_below c));clear c a i;go_wp2;exact A6 (b.out _ m.out l.out) rfl
 ·intro e w1 i a;have f:=h.er p a;replace j:=hd (j.out e);have o:(g++(⟨#[]⟩:BA)).size≤100000:=(by rw[ByteArray.size_append];have:(⟨#[]⟩:BA).size≤1:=(by decide);omega);replace a:=hd a;go_wp2_with (fail);refine A1i _ _ o f _ ?_;intro u r c;generalize Y1 (g++(⟨#[]⟩:BA))=n;have m:=hd (i.only (i.pa.below c) (A8.of_below c));have l:=hd (a.out.trans (Fu.of_below c));clear c a i;go_wp2;exact A6 (j.out _ n m.out l.out) rfl
end
end
section
def D2 (L:LB)(k:Nat):Option (Int×Nat):=
 if (A0 L k).toList==wMI.toList then (if Y8 (A0 L (k+1)) then some (Y1 (wMI++A0 L (k+1)),k+2) else none)
 else if Y8 (A0 L k) then some (Y1 (⟨#[]⟩++A0 L k),k+1) else none
section
variable {B bp:Nat}{pv:VL}{L:LB}{k:Nat}{d:Int}{us:LB}{uv:VL}{w:WD}
theorem C0x (h:Pn B bp pv L d us uv w)(i:Er bp w)(R:RP)(a:∀w' n,Pn B bp pv L d us uv w'→Fu bp uv uv w w'→R (.returned (.int .i64 n)) w'):Calls Tryz.prog 239 #[.pointer (some ⟨bp,0,none⟩)] w R:=by replace a:=hd a;go_enter Tryz.func239,Tryz.ntmps239;go_wp2_with (fail);refine A3k (s:=wMI) h (by kernel_rfl) _ ?_;intro w1 j b;have c:=h.er i b;replace b:=hd b;go_wp2_with (fail);refine B9c j c ⟨#[]⟩ (by decide) _ ?_;intro k n e f;have g:=hd (b.out.trans f);replace e:=hd e;clear b f;go_wp2;exact A6 (a.out _ n e.out g.out) rfl
theorem B7e (r:A0f L)(h:Ps B bp pv L k d us uv w)(t:Er bp w)(R:RP)(f:∀n k',D2 L k=some (n,k')→∀w',Ps B bp pv L k' d us uv w'→Fu bp uv uv w w'→R (.returned (.int .i64 n)) w')(o:D2 L k=none→∀w' n,Pn B bp pv L d us uv w'→Fu bp uv uv w w'→R (.returned (.int .i64 n)) w'):Calls Tryz.prog 239 #[.pointer (some ⟨bp,0,none⟩)] w R:=by
 replace f:=hd f;replace o:=hd o;go_enter Tryz.func239,Tryz.ntmps239;go_wp2_with (fail);refine A38 (s:=wMI) h (by decide) _ ?_ ?_
 ·intro e w1 q a;have i:=h.er t a;have m:((A0 L k).toList==wMI.toList)=true:=(by rw[e];exact beq_self_eq_true _);replace a:=hd a;go_wp2_with (fail);refine B6Z r q i wMI (by decide) _ ?_ ?_
  ·intro l p b c;have g:=hd (f.out (Y1 (wMI++A0 L (k+1))) (k+2) (by unfold D2;rw[if_pos m,if_pos l]));generalize Y1 (wMI++A0 L (k+1))=n at*;have j:=hd (a.out.trans c);replace b:=hd b;clear a c;go_wp2;exact A6 (g.out _ b.out j.out) rfl
  ·intro l p n b c;have g:=hd (o.out (by unfold D2;rw[if_pos m,if_neg (by rw[l];decide)]));have j:=hd (a.out.trans c);replace b:=hd b;clear a c;go_wp2;exact A6 (g.out _ n b.out j.out) rfl
 ·intro m w1 q a;have i:=h.er t a;replace a:=hd a;go_wp2_with (fail);refine B6Z r q i ⟨#[]⟩ (by decide) _ ?_ ?_
  ·intro l p b c;have g:=hd (f.out (Y1 (⟨#[]⟩++A0 L k)) (k+1) (by unfold D2;rw[if_neg (by rw[m];decide),if_pos l]));generalize Y1 (⟨#[]⟩++A0 L k)=n at*;have j:=hd (a.out.trans c);replace b:=hd b;clear a c;go_wp2;exact A6 (g.out _ b.out j.out) rfl
  ·intro l p n b c;have g:=hd (o.out (by unfold D2;rw[if_neg (by rw[m];decide),if_neg (by rw[l];decide)]));have j:=hd (a.out.trans c);replace b:=hd b;clear a c;go_wp2;exact A6 (g.out _ n b.out j.out) rfl
end
end
section
variable {B bp:Nat}{pv:VL}{L:LB}{d:Int}{us:LB}{uv:VL}{w:WD}
theorem Pn.alloc (h:Pn B bp pv L d us uv w)(o:Obj):Pn B bp pv L d us uv (w.alloc o):=
 h.only (h.pa.below ((Below.refl _ w).alloc (z8 _) o)) ((A8.refl bp w).alloc o)
theorem Pn.drew (h:Pn B bp pv L d us uv w):Pn B bp pv L d us uv w.drew:=
 h.only (h.pa.below (below_drewN (Below.refl _ w) 1)) ((A8.refl bp w).drew)
theorem Pn.apart (h:Pn B bp pv L d us uv w){g:Nat}{cur:Array VL}{T:Nat}{fz:Nat×Nat}(b:w.heap[g]? =some (.cells cur T fz))(l:T≠9)(hB:bp≠g){f:VL}{w':WD}(k:Fu bp uv f w w'):w'.heap[g]? =some (.cells cur T fz):=by
 have c:g<w.heap.size:=(y0.1 b).1;refine (k.block g c (fun e=>hB e.symm) (fun e=>?_)).trans b;rcases h.own.2 with ⟨rfl,_⟩|⟨g',cap,i,rfl,_,a,_⟩
 ·simp[Value.ownBlock] at e
 ·simp only[Value.ownBlock,Option.some.injEq] at e;subst e;rw[b] at a;injection a with j;injection j with _ m;exact l m
theorem Pn.setNew (h:Pn B bp pv L d us uv w){g:Nat}{cur:Array VL}{T:Nat}{fz:Nat×Nat}(r:w.heap[g]? =some (.cells cur T fz))(z:T≠9)(hB:B≤g)(i:Nat)(v:VL):Pn B bp pv L d us uv (w.setCell ⟨g,i,none⟩ v):=by
 have u:=h.lt;have o:=h.pa.row.lt;have k:∀j,j≠g→(w.setCell ⟨g,i,none⟩ v).heap[j]? =w.heap[j]? :=fun j b=>z3 _ _ _ _ b;refine⟨?_,A5 h.own (fun j b _ _=>k j (fun e=>?_)),h.lt,by rw[z5];exact h.le,h.few,h.old,fun j x t=>(z0 (w:=w) (a:=⟨4,j,none⟩) (k 4 (by have:=h.opB.1;omega))).trans (h.ops j x t),h.opB⟩
 ·obtain⟨y,p,e,D,l⟩:=h.pa.parts;refine⟨h.pa.row.of_block (k _ (by omega)),h.pa.le,h.pa.sm,y,p,e,D,fun C=>?_⟩;obtain⟨q,f,m,s,A⟩:=l C;have E:=h.old q p (by rw[e,f]);exact⟨q,f,m,by rw[z5];exact s,fun j x b=>(z0 (w:=w) (a:=⟨q,j,none⟩) (k q (by omega))).trans (A j x b)⟩
 ·subst e;rcases h.own.2 with ⟨rfl,_⟩|⟨g',cap,n,rfl,_,c,_⟩
  ·simp[Value.ownBlock] at b
  ·simp only[Value.ownBlock,Option.some.injEq] at b;subst b;rw[r] at c;injection c with f;injection f with _ m;exact z m
end
theorem Pn.grow {B bp:Nat}{pv:VL}{L:LB}{d:Int}{us:LB}{uv:VL}{w w':WD}(h:Pn B bp pv L d us uv w){f T E n:Nat}{lv:VL}{xs:List VL}(c:w.ownsRow f T E lv n xs)(J:T≠9)(hB:B≤f)(C:w.heap.size≤w'.heap.size)(o:∀b,b<w.heap.size→lv.ownBlock≠some b→w'.heap[b]? =w.heap[b]?):Pn B bp pv L d us uv w':=by
 have r:=h.lt;have I:=h.le;have l:=h.pa.row.lt;have g:∀b,b<B→lv.ownBlock≠some b:=fun b Q e=>by have:=(c.lt b e).1;omega
 refine⟨?_,A5 h.own (fun j i H t=>o j t (fun e=>?_)),h.lt,y2 h.le C,h.few,h.old,fun j x G=>(z0 (w:=w) (a:=⟨4,j,none⟩) (o 4 (by have:=h.opB.1;omega) (g 4 h.opB.1))).trans (h.ops j x G),h.opB⟩
 ·obtain⟨F,z,e,O,p⟩:=h.pa.parts;refine⟨h.pa.row.of_block (o _ l (g _ r)),h.pa.le,h.pa.sm,F,z,e,O,fun N=>?_⟩;obtain⟨q,m,s,v,K⟩:=p N;have M:=h.old q z (by rw[e,m]);exact⟨q,m,s,y1 v C,fun j x i=>(z0 (w:=w) (a:=⟨q,j,none⟩) (o q v (g q M))).trans (K j x i)⟩
 ·rcases h.own.2 with ⟨rfl,_⟩|⟨g',cap,D,rfl,_,k,_⟩
  ·simp[Value.ownBlock] at i
  ·simp only[Value.ownBlock,Option.some.injEq] at i;subst i;rcases c.2 with ⟨rfl,_⟩|⟨P,A,y,rfl,_,u,_⟩
   ·simp[Value.ownBlock] at e
   ·simp only[Value.ownBlock,Option.some.injEq] at e;subst e;rw[u] at k;injection k with m;injection m with _ s;exact J s
theorem Pn.bel {B bp:Nat}{pv:VL}{L:LB}{d:Int}{us:LB}{uv:VL}{w w':WD}(h:Pn B bp pv L d us uv w)(a:Below w.heap.size w w'):Pn B bp pv L d us uv w':=h.only (h.pa.below a) (A8.of_below a)
theorem A9z {w:WD}{B bp:Nat}{pv:VL}{L:LB}{d:Int}{us:LB}{uv:VL}(h:∀H:RP,(∀w1,Pn B bp pv L d us uv w1→Fu bp uv uv w w1→H (.returned (.string ⟨#[]⟩)) w1)→Calls Tryz.prog 197 #[.pointer (some ⟨bp,0,none⟩)] w H)(I:us.length≤L.length)(R:RP)(o:∀w' A,Pn B bp pv L d (us++[⟨#[]⟩]) A w'→Fu bp uv A w w'→R (.returned (.string ⟨#[]⟩)) w'):Calls Tryz.prog 238 #[.pointer (some ⟨bp,0,none⟩)] w R:=by
 replace h:=hd h;replace o:=hd o;go_enter Tryz.func238,Tryz.ntmps238;go_wp2_with (fail);refine h.out _ ?_;intro w1 k n;have Z:w1.cell? ⟨bp,3,none⟩=some uv:=k.pa.row.cell (i:=3) (by omega);have U:=k.pa.row.frozen 3;have N:=k.pa.row.lt;have u:=k.lt;have hle:=k.le;have X:us.length≤1000000:=(by have:=k.pa.sm;omega);have l:some bp≠uv.ownBlock:=fun e=>by have:=(k.own.lt bp e.symm).1;omega
 have z:some w1.heap.size≠uv.ownBlock:=fun e=>by have:=(k.own.lt w1.heap.size e.symm).2;omega
 obtain⟨r,q,rfl⟩:=A7 k.own;have hr:=hd k.own;replace l:=hd l;replace z:=hd z;replace k:=hd k;replace n:=hd n;go_wp2_with (first|(at_builtin;refine I5 _ rfl _ _ 81 rfl B 9 _ 1 16 A2H A0t rfl (by decide) _ us.length (N6 us) rfl (by exact hr.out.alloc _) ⟨w1.heap.size,0,none⟩ 1 1 [.string ⟨#[]⟩] rfl rfl (by exact S5 (A6r (by simp))) (A3r _) (by unfold maxLen;omega) (by omega) (by simp;omega) ?_;intro v2 y f b m;obtain⟨s,t,rfl⟩:=A7 f;have cx:y.cell? ⟨bp,3,none⟩=some (.slice r us.length q):=A6L b (by exact A1a Z _) l.out;have fx:y.frozen? ⟨bp,3,none⟩=false:=A6M b (by exact B2g U N _) (by simp;omega) l.out;replace f:=hd f;replace b:=hd b;replace m:=hd m));have M:A8 bp w1 (w1.alloc (Obj.cells #[.string ⟨#[]⟩] 9)):=(A8.refl bp w1).alloc _;have C:∀i,i<w1.heap.size→(Value.slice r us.length q).ownBlock≠some i→y.heap[i]? =w1.heap[i]? :=fun i hi p=>(b.out.block i (by simp;omega) (fun e=>p e.symm)).trans (z9 _ _ _ hi);have c:=k.out;have F:(Value.slice r us.length q).ownBlock≠some bp:=fun e=>l.out e.symm;have G:Pa bp pv L L.length d (.slice r us.length q) true y:=by
  obtain⟨V,K,e,hc,D⟩:=c.pa.parts;refine⟨c.pa.row.of_block (C _ N F),c.pa.le,c.pa.sm,V,K,e,hc,fun h0=>?_⟩;obtain⟨g,O,Y,J,e4⟩:=D h0;have Q:(Value.slice r us.length q).ownBlock≠some g:=fun e=>by have:=c.old g K (by rw[←O];assumption);have:=(c.own.lt g e).1;omega
  exact⟨g,O,Y,y1 J (y2 M.size b.out.size),fun j x P=>(z0 (w:=w1) (a:=⟨g,j,none⟩) (C g J Q)).trans (e4 j x P)⟩
 have E:w1.heap.size≤y.heap.size:=y2 M.size b.out.size;refine A6 (o.out _ (.slice s (us.length+1) t) ⟨G.setUsed _,?_,u,by rw[z5];omega,by rw[List.length_append];simp;omega,c.old,fun i v T=>?_,c.opB⟩ (n.out.trans ?_)) rfl;rotate_left
 ·have h4:(Value.slice r us.length q).ownBlock≠some 4:=fun e=>by have:=(c.own.lt 4 e).1;have:=c.opB.1;omega
  rw[z2 _ _ _ _ (by intro e;injection e with e;exact c.opB.2 e.symm)];exact (z0 (w:=w1) (a:=⟨4,i,none⟩) (C 4 (by have:=c.opB.1;omega) h4)).trans (c.ops i v T)
 rotate_left
 ·have:=ownsRow_setCell_below (a:=⟨bp,3,none⟩) f.out u (.slice s (us.length+1) t);rw[List.length_append];simpa[N6] using this
 ·refine⟨b.out.os,b.out.tape,b.out.output,by rw[z5];exact E,fun i hi p S=>?_,?_⟩
  ·rw[z3 _ _ _ _ p];exact C i hi S
  ·rcases m.out with e|⟨e,_⟩
   ·exact .inl e
   ·exact .inr ⟨_,e,by simp⟩
section
variable {B bp:Nat}{pv:VL}{L:LB}{k:Nat}{d:Int}{us:LB}{uv:VL}{w:WD}
theorem C0p (h:Pn B bp pv L d us uv w)(b:us.length≤L.length)(R:RP)(c:∀w' a,Pn B bp pv L d (us++[⟨#[]⟩]) a w'→Fu bp uv a w w'→R (.returned (.string ⟨#[]⟩)) w'):Calls Tryz.prog 238 #[.pointer (some ⟨bp,0,none⟩)] w R:=
 A9z (fun e f=>B5k h e f) b R c
theorem C0H (c:A0f L)(h:Ps B bp pv L k d us uv w)(R:RP)(b:O9 (A0 L k)→∀w' a,Ps B bp pv L (k+1) d (us++[A0 L k]) a w'→Fu bp uv a w w'→R (.returned (.string (A0 L k))) w')(l:O7 (A0 L k)=false→∀w' a,Pn B bp pv L d (us++[⟨#[]⟩]) a w'→Fu bp uv a w w'→R (.returned (.string ⟨#[]⟩)) w'):Calls Tryz.prog 238 #[.pointer (some ⟨bp,0,none⟩)] w R:=by
 have g:=(c.next k).1;cases e:O7 (A0 L k) with
 |true=>exact A6O h (A0N e g) R (b (A0N e g))
 |false=>exact A9z (fun j f=>B5g c h j (fun i=>by rw[A6F i] at e;cases e) (fun _=>f)) (by have:=h.few;have:=h.pa.le;omega) R (l e)
end
section
theorem A9M {w:WD}{B bp:Nat}{pv:VL}{L:LB}{d:Int}{us:LB}{uv:VL}(Q:WD→Prop)(S:Q w)(r:∀i v,opC[i]? =some v→w.cell? ⟨4,i,none⟩=some v)(h4:4<w.heap.size)(hbp:bp<w.heap.size)(K:B≤w.heap.size)(n:∀(W:WD) (o:Obj),Q W→Q (W.alloc o))(k:∀i,i<9→∀(W:WD),Q W→∀(E:RP),(∀w',Q w'→Fu bp uv uv W w'→E (.returned (.bool false)) w')→Calls Tryz.prog 196 #[.pointer (some ⟨bp,0,none⟩),.string (P6 i)] W E)(p:∀(W V:WD) (g:Nat) (cur:Array VL) (T:Nat),Q W→W.heap[g]? =some (.cells cur T)→T≠9→bp≠g→Fu bp uv uv W V→V.heap[g]? =some (.cells cur T))(e:∀(W:WD),Q W→∀(E:RP),(∀w',Pn B bp pv L d us uv w'→Fu bp uv uv W w'→E (.returned (.tuple #[])) w')→Calls Tryz.prog 135 #[.pointer (some ⟨bp,0,none⟩)] W E)(R:RP)(y:∀w',Pn B bp pv L d us uv w'→Fu bp uv uv w w'→R (.returned (.agg #[.string ⟨#[]⟩,.int .u8 0,.int .u8 0])) w'):Calls Tryz.prog 262 #[.pointer (some ⟨bp,0,none⟩)] w R:=by
 have H:bp≠w.heap.size:=(by omega);obtain⟨C,I⟩:∃C,C=opC:=⟨_,rfl⟩;have F:w.rangeAt 4 0 C:=fun j v N=>by rw[Nat.zero_add];exact r j v (I▸N)
 have l:(w.alloc (Obj.cells #[.string ⟨#[]⟩,.int .u8 0,.int .u8 0] 349)).rangeAt 4 0 C:=fun j v N=>(z0 (w:=w) (a:=⟨4,0+j,none⟩) (z9 _ _ _ h4)).trans (F j v N);have h:(Tryz.prog.info? 362).map (·.size)=some C.length:=(by rw[I];kernel_rfl);replace l:=hd l;replace h:=hd h;replace I:=hd I;clear F r;replace y:=hd y;replace k:=hd k;replace p:=hd p;replace n:=hd n;replace e:=hd e;replace S:=hd S;go_enter Tryz.func262,Tryz.ntmps262;go_wp2_with (refine wpList_load_mid rfl 362 _ rfl 4 0 rfl C (.array 9 349) l.out (by kernel_rfl) rfl h.out ?_);go_loopw [4,6] (fun q U wr=>∃i:Nat,i≤9∧U=.int .i64 (i:Int)∧Q wr∧Fu bp uv uv w wr∧wr.heap[w.heap.size]? =some (.cells #[.string ⟨#[]⟩,.int .u8 0,.int .u8 0] 349)) (fun _ U _=>9-(intOf U).toNat);case atStart=>exact⟨0,by omega,rfl,n.out _ _ S.out,Fu.of_below ((Below.refl _ w).alloc (z8 _) _),A2⟩
 case round=>
  obtain⟨i,hi,rfl,D,m,s⟩:=hrel;have Z:=m.size;have M:w.heap.size<wr.heap.size:=(y0.1 s).1;by_cases O:i<9
  ·have G:=B5A i (by omega);rw[←I.out] at G;have X:decide ((i:Int)<9)=true:=(by simp;omega);have f:=hd (n.out wr (Obj.cells #[.string (P6 i),.int .u8 (opF i),.int .u8 (opI i)] 349) D);replace m:=hd m;replace s:=hd s;replace D:=hd D;go_wp2_with (fail);refine k.out i O _ f.out _ ?_;intro w1 u c;have b:=hd (p.out _ _ _ _ _ f.out ((z9 _ _ _ M).trans s.out) (by decide) H c);have t:=hd (m.out.trans (((Fu.of_below ((Below.refl _ wr).alloc (z8 _) _)).trans c)));replace u:=hd u;clear c D m f;go_wp2;exact⟨⟨i+1,by omega,by go_num,u.out,t.out,b.out⟩,by simp[intOf];omega⟩
  ·have X:decide ((i:Int)<9)=false:=(by simp;omega);replace m:=hd m;have P:=s;replace s:=hd s;go_wp2_with (fail);refine e.out _ D _ ?_;intro w1 u c;have b:=p.out _ _ _ _ _ D s.out (by decide) H c;have a0:=A1 (i:=0) b rfl;have a1:=A1 (i:=1) b rfl;have a2:=A1 (i:=2) b rfl;have fa:=B2 (i:=0) b;have fb:=B2 (i:=1) b;have fc:=B2 (i:=2) b;have hs2:=c.size;have t:=hd (m.out.trans c);replace u:=hd u;generalize J:w.heap.size=z at*;replace J:=hd J;replace b:=hd b;clear c m P;go_wp2;have A:=A4 (i:=2) (A4 (i:=1) (A4 (i:=0) b.out (.string ⟨#[]⟩)) (.int .u8 0)) (.int .u8 0);have Y:=A1 (i:=0) A rfl;have r1:=A1 (i:=1) A rfl;have r2:=A1 (i:=2) A rfl;have x:B≤z:=K;refine bodyPost_ret (v:=.agg #[.string ⟨#[]⟩,.int .u8 0,.int .u8 0]) (by simp[results,Tryz.results262,go_sem,Y,r1,r2]) rfl ?_;exact y.out _ (((u.out.setNew b.out (by decide) x 0 _).setNew (A4 b.out _) (by decide) x 1 _).setNew (A4 (A4 b.out _) _) (by decide) x 2 _) (((t.out.setNew (z6 J.out) 0 _).setNew (z6 J.out) 1 _).setNew (z6 J.out) 2 _)
section
variable {B bp:Nat}{pv:VL}{L:LB}{k:Nat}{d:Int}{us:LB}{uv:VL}{w:WD}
theorem B1X:∀i,i<9→((⟨#[]⟩:BA).toList==(P6 i).toList)=false:=by
 intro i _;cases e:((⟨#[]⟩:BA).toList==(P6 i).toList) with
 |false=>rfl
 |true=>exact absurd (by rw[←A0u e];rfl) (A7N i)
theorem nOp (h:Pn B bp pv L d us uv w)(R:RP)(b:∀w',Pn B bp pv L d us uv w'→Fu bp uv uv w w'→R (.returned (.agg #[.string ⟨#[]⟩,.int .u8 0,.int .u8 0])) w'):Calls Tryz.prog 262 #[.pointer (some ⟨bp,0,none⟩)] w R:=
 A9M (Pn B bp pv L d us uv) h h.ops (by have:=h.opB.1;have:=h.le;omega) h.pa.row.lt h.le (fun _ o a=>a.alloc o) (fun i hi _ a c f=>A3k a (B1X i hi) c f) (fun _ _ _ _ _ a g k j e=>a.apart g k j e) (fun _ a c f=>A4P a c f) R b
def opP (L:LB)(k:Nat):Option Nat:=(List.range 9).find? (fun i=>(A0 L k).toList==(P6 i).toList)
theorem A4b {o:Nat}(h:opP L k=some o):o<9∧A0 L k=P6 o:=by unfold opP at h;have b:=List.find?_some h;have a:=List.mem_of_find?_eq_some h;exact⟨List.mem_range.1 a,A0u b⟩
theorem B2o (h:opP L k=none):∀i,i<9→((A0 L k).toList==(P6 i).toList)=false:=by intro i hi;unfold opP at h;have:=List.find?_eq_none.1 h i (List.mem_range.2 hi);simpa using this
theorem gOp (h:Ps B bp pv L k d us uv w)(R:RP)(c:∀o,opP L k=some o→o<9→∀w',Ps B bp pv L (k+1) d us uv w'→Fu bp uv uv w w'→R (.returned (.agg #[.string (P6 o),.int .u8 (opF o),.int .u8 (opI o)])) w')(q:opP L k=none→∀w',Pn B bp pv L d us uv w'→Fu bp uv uv w w'→R (.returned (.agg #[.string ⟨#[]⟩,.int .u8 0,.int .u8 0])) w'):Calls Tryz.prog 262 #[.pointer (some ⟨bp,0,none⟩)] w R:=by
 cases e:opP L k with
 |some o=>
  obtain⟨g,r⟩:=A4b e;exact A6y h o g r R (c o e g)
 |none=>
  have p:=B2o e;exact A9M (Ps B bp pv L k d us uv) h h.ops (by have:=h.opB.1;have:=h.le;omega) h.pa.row.lt h.le (fun _ o a=>a.alloc o) (fun i hi _ a b f=>B1r a (p i hi) b f) (fun _ _ _ _ _ a l n m j=>a.apart l n m j) (fun _ a b f=>A4R a b f) R (q e)
end
end
section
def B6 (s t:BA):Bool:=s.toList==t.toList
def pE (L:LB):Nat→Nat→Nat→Option (Ex×Nat)
 |0,_,_=>none
 |f+1,k,d=>
  if B6 (A0 L k) wMI||Y8 (A0 L k) then (D2 L k).bind (fun p=>some (.lit p.1,p.2))
  else if O7 (A0 L k) then
   (if B6 (A0 L (k+1)) wLB then (if d<10 then (pE L f (k+2) (d+1)).bind (fun p=>if B6 (A0 L p.2) wRB then some (.idx (A0 L k) p.1,p.2+1) else none) else none)
    else some (.plc (A0 L k),k+1))
  else if B6 (A0 L k) V5 then some (.tru true,k+1)
  else if B6 (A0 L k) Q0 then some (.tru false,k+1)
  else if B6 (A0 L k) wLP then
   (if d<10 then (pE L f (k+1) (d+1)).bind (fun p=>(opP L p.2).bind (fun o=>(pE L f (p.2+1) (d+1)).bind (fun q=>if B6 (A0 L q.2) wRP then some (.bin o p.1 q.1,q.2+1) else none))) else none)
  else if B6 (A0 L k) A1K then (if d<10 then (pE L f (k+1) (d+1)).bind (fun p=>some (.neg p.1,p.2)) else none)
  else if B6 (A0 L k) R4 then (if d<10 then (pE L f (k+1) (d+1)).bind (fun p=>some (.sho p.1,p.2)) else none)
  else if B6 (A0 L k) A3u then
   (if d<10 then (if B6 (A0 L (k+1)) wLP then (if O7 (A0 L (k+2)) then (if B6 (A0 L (k+3)) wCM then (pE L f (k+4) (d+1)).bind (fun p=>if B6 (A0 L p.2) wCM then (pE L f (p.2+1) (d+1)).bind (fun q=>if B6 (A0 L q.2) wRP then some (.dly (A0 L (k+2)) p.1 q.1,q.2+1) else none) else none) else none) else none) else none) else none)
  else none
def A05 (L:LB)(f k:Nat)(r:Nat→Option (Ex×Nat))(F:Nat):Prop:=∀{w:WD}{B bp:Nat}{pv:VL}{d:Nat}{us:LB}{uv:VL},Ps B bp pv L k (d:Int) us uv w→Er bp w→d≤10→L.length<k+f→∀(R:RP),(∀e k',r d=some (e,k')→k<k'→∀w' v a,Ps B bp pv L k' (d:Int) (us++C7 e) a w'→Fu bp uv a w w'→E9 (fun _=>0) e w.heap.size w'.heap.size w' v→R (.returned v) w')→(r d=none→∀w' v b a,Pn B bp pv L (d:Int) b a w'→Fu bp uv a w w'→(∃t u,v=.iface t u)→R (.returned v) w')→Calls Tryz.prog F #[.pointer (some ⟨bp,0,none⟩)] w R
section
variable {B bp:Nat}{pv:VL}{L:LB}{k:Nat}{d:Int}{us:LB}{uv:VL}{w:WD}
theorem A5r (h:Pn B bp pv L d us uv w)(R:RP)(a:∀w' v,Pn B bp pv L d us uv w'→Fu bp uv uv w w'→(∃t u,v=.iface t u)→R (.returned v) w'):Calls Tryz.prog 233 #[.pointer (some ⟨bp,0,none⟩)] w R:=by have K:((⟨#[]⟩:BA).toList==[45])=false:=(by kernel_rfl);replace a:=hd a;go_enter Tryz.func233,Tryz.ntmps233;go_wp2_with (fail);refine A7V h _ ?_;intro w1 n c;go_wp2_with (fail);refine A0L _ ⟨#[]⟩ (.inl rfl) _ ?_;go_wp2_with (fail);refine A2d _ ⟨#[]⟩ (.inl rfl) _ ?_;go_wp2_with (fail);refine A3k (s:=V5) n (by kernel_rfl) _ ?_;intro G o m;have E:=c.trans m;clear c m;go_wp2_with (fail);refine A3k (s:=Q0) o (by kernel_rfl) _ ?_;intro w3 j e;have k:=E.trans e;clear E e;go_wp2_with (fail);refine A3k (s:=wLP) j (by kernel_rfl) _ ?_;intro H z A;have p:=k.trans A;clear k A;go_wp2_with (fail);refine A3k (s:=A1K) z (by kernel_rfl) _ ?_;intro M f q;have i:=p.trans q;clear p q;go_wp2_with (fail);refine A3k (s:=R4) f (by kernel_rfl) _ ?_;intro J x r;have D:=i.trans r;clear i r;go_wp2_with (fail);refine A3k (s:=A3u) x (by kernel_rfl) _ ?_;intro N C g;have y:=D.trans g;clear D g;go_wp2_with (fail);refine A4P C _ ?_;intro I b l;have F:=hd (y.trans l);replace b:=hd b;clear y l n o j z f x C;go_wp2;exact A6 (a.out _ (.iface 333 (.agg #[.bool false])) b.out F.out ⟨_,_,rfl⟩) rfl
theorem A50 {f:Nat}(P:A05 L f k (fun d=>pE L f k d) 233):A05 L f k (fun d=>if d<10 then pE L f k (d+1) else none) 248:=by
 intro w B bp pv d us uv h N K M R p z;have O:=h.pa.row.lt;replace p:=hd p;replace z:=hd z;go_enter_defers Tryz.func248,Tryz.ntmps248;go_wp2_with (fail);refine A8G h (by omega) _ ?_ ?_
 ·intro H w1 o g;have A:=h.er N g;have J:=g.size;have m:((d:Int)+1)=((d+1:Nat):Int):=(by omega);rw[m] at o;replace g:=hd g;go_wp2_with (fail);refine P o A (by omega) M _ ?_ ?_
  ·intro e k' F I j v n b l q;obtain⟨tl,s,rfl⟩:=q.iface;have r:=hd (p.out e k' (by rw[if_pos (by omega)];exact F) I);have x:=hd (g.out.trans l);have D:=hd (q.wide J (z8 _));rw[←m] at b;have u:j.cell? ⟨bp,2,none⟩=some (.int .i64 ((d:Int)+1)):=b.pa.row.cell (i:=2) (by omega);have t:=b.pa.row.frozen 2;replace b:=hd b;clear g l q o;go_wp2;refine leaves_cons (f:=235) (args:=#[.pointer (some ⟨bp,0,none⟩)]) (by simp) (by simp[go_sem]) ?_;refine (S9 _ bp ((d:Int)+1) (by omega) u t .returning).mono ?_;rintro e' u' w8 ⟨rfl,rfl,rfl⟩;refine⟨_,results_tmp rfl _ _ _,?_⟩;have y:(d:Int)+1-1=d:=(by omega);rw[y];have G:(j.setCell ⟨bp,2,none⟩ (.int .i64 d)).heap.size=j.heap.size:=z5 _ _ _;refine A6 (r.out _ (.iface tl s) n (b.out.only (b.out.pa.setDep d) ((A8.refl bp j).setCell (a:=⟨bp,2,none⟩) (.inl rfl) _) (by omega)) (x.out.trans (Fu.of_only ((A8.refl bp j).setCell (a:=⟨bp,2,none⟩) (.inl rfl) _))) ?_) rfl;rw[G];exact D.out.keep (fun c cur Q _ _=>z3 _ _ _ _ (show c≠bp by omega))
  ·intro F j v E n b l C;obtain⟨tl,s,rfl⟩:=C;have r:=hd (z.out (by rw[if_pos (by omega)];exact F));have x:=hd (g.out.trans l);rw[←m] at b;have u:j.cell? ⟨bp,2,none⟩=some (.int .i64 ((d:Int)+1)):=b.pa.row.cell (i:=2) (by omega);have t:=b.pa.row.frozen 2;replace b:=hd b;clear g l o;go_wp2;refine leaves_cons (f:=235) (args:=#[.pointer (some ⟨bp,0,none⟩)]) (by simp) (by simp[go_sem]) ?_;refine (S9 _ bp ((d:Int)+1) (by omega) u t .returning).mono ?_;rintro e' u' w8 ⟨rfl,rfl,rfl⟩;refine⟨_,results_tmp rfl _ _ _,?_⟩;have y:(d:Int)+1-1=d:=(by omega);rw[y];exact A6 (r.out _ (.iface tl s) E n (b.out.only (b.out.pa.setDep d) ((A8.refl bp j).setCell (a:=⟨bp,2,none⟩) (.inl rfl) _)) (x.out.trans (Fu.of_only ((A8.refl bp j).setCell (a:=⟨bp,2,none⟩) (.inl rfl) _))) ⟨_,_,rfl⟩) rfl
 ·intro H w1 o g;replace g:=hd g;go_wp2_with (fail);refine A5r o _ ?_;intro j v b l C;obtain⟨tl,s,rfl⟩:=C;have r:=hd (z.out (by rw[if_neg (by omega)]));have x:=hd (g.out.trans l);have u:j.cell? ⟨bp,2,none⟩=some (.int .i64 ((d:Int)+1)):=b.pa.row.cell (i:=2) (by omega);have t:=b.pa.row.frozen 2;replace b:=hd b;clear g l o;go_wp2;refine leaves_cons (f:=235) (args:=#[.pointer (some ⟨bp,0,none⟩)]) (by simp) (by simp[go_sem]) ?_;refine (S9 _ bp ((d:Int)+1) (by omega) u t .returning).mono ?_;rintro e' u' w8 ⟨rfl,rfl,rfl⟩;refine⟨_,results_tmp rfl _ _ _,?_⟩;have y:(d:Int)+1-1=d:=(by omega);rw[y];exact A6 (r.out _ (.iface tl s) us uv (b.out.only (b.out.pa.setDep d) ((A8.refl bp j).setCell (a:=⟨bp,2,none⟩) (.inl rfl) _)) (x.out.trans (Fu.of_only ((A8.refl bp j).setCell (a:=⟨bp,2,none⟩) (.inl rfl) _))) ⟨_,_,rfl⟩) rfl
end
end
def pI (L:LB)(f k d:Nat):Option (Option Ex×Nat):=
 if B6 (A0 L (k+1)) wLB then (if d<10 then (pE L f (k+2) (d+1)).bind (fun p=>if B6 (A0 L p.2) wRB then some (some p.1,p.2+1) else none) else none) else some (none,k+1)
def A2u:Option Ex→LB
 |none=>[]
 |some i=>C7 i
def B14 (x:Option Ex)(lo hi:Nat)(w:WD)(v:VL):Prop:=match x with
 |none=>v=.nilIface
 |some i=>(∃t u,v=.iface t u)∧E9 (fun _=>0) i lo hi w v
theorem B3w {L:LB}{f:Nat}{w:WD}{B bp:Nat}{pv:VL}{k d:Nat}{us:LB}{uv:VL}(hE:A05 L f (k+2) (fun d=>pE L f (k+2) d) 233)(h:Ps B bp pv L k (d:Int) us uv w)(he:Er bp w)(hd10:d≤10)(hk:L.length<k+2+f)(hn:O9 (A0 L k))(R:RP)(A:∀x k',pI L f k d=some (x,k')→k<k'→∀w' v r,Ps B bp pv L k' (d:Int) (us++[A0 L k]++A2u x) r w'→Fu bp uv r w w'→B14 x w.heap.size w'.heap.size w' v→R (.returned (.agg #[.string (A0 L k),v])) w')(no:pI L f k d=none→∀w' t u us' r,Pn B bp pv L (d:Int) us' r w'→Fu bp uv r w w'→R (.returned (.agg #[.string (A0 L k),.iface t u])) w'):Calls Tryz.prog 232 #[.pointer (some ⟨bp,0,none⟩)] w R:=by
 cases e0:((A0 L (k+1)).toList==wLB.toList) with
 |false=>
  have F:pI L f k d=some (none,k+1):=(by unfold pI B6;rw[e0];rfl);exact A6Y h hn e0 R (fun w' r Z f1=>A none (k+1) F (by omega) w' .nilIface r (by simpa[A2u] using Z) f1 rfl)
 |true=>
  have X:=A0u e0;have hD:A05 L f (k+2) (fun d=>if d<10 then pE L f (k+2) (d+1) else none) 248:=A50 @hE;have n:bp≠w.heap.size:=(by have:=h.pa.row.lt;omega);have E:=h.le;have hp0:pI L f k d=(if d<10 then (pE L f (k+2) (d+1)).bind (fun p=>if B6 (A0 L p.2) wRB then some (some p.1,p.2+1) else none) else none):=(by unfold pI B6;rw[e0];rfl);rw[hp0] at A no;replace A:=hd A;replace no:=hd no;go_enter Tryz.func232,Tryz.ntmps232;go_wp2_with (fail);refine A6O (h.alloc _) hn _ ?_;intro w1 uv1 Z V;have hb1:=(h.alloc _).apart A2 (by decide) n V;have ac:=hd (((Fu.of_below (bp:=bp) (u:=uv) ((Below.refl _ w).alloc (z8 _) _)).trans V));have D:bp≠w1.heap.size:=(by have:=Z.pa.row.lt;omega);have hl1:w.heap.size<w1.heap.size:=(by have:=V.size;simp at this;omega);have hw0:=h.pa.row.lt;have he0:=h.er he ac.out;clear V;go_wp2_with (fail);refine B6r (s:=wLB) (Z.alloc _) X (by decide) _ ?_;intro w2 h2 M;have S:=(Z.alloc (Obj.cells #[Value.string (A0 L k),Value.nilIface] 305)).apart ((z9 _ _ _ hl1).trans hb1) (by decide) n M;have U:=(Z.alloc _).apart A2 (by decide) D M;have hs2:=M.size;rw[World.size_alloc] at hs2;have I:=hd (ac.out.trans (((Fu.of_below ((Below.refl _ w1).alloc (z8 _) _)).trans M)));have hB1:=Z.le;have he2:=h.er he I.out;clear hb1 M ac;generalize hz1:w1.heap.size=z1 at*;replace hz1:=hd hz1;replace S:=hd S;replace U:=hd U;go_wp2_with (fail);refine hD h2 he2 hd10 (by omega) _ ?_ ?_
  ·intro i k' F hkk w5 vi T Q H ab;change (if d<10 then pE L f (k+2) (d+1) else none)=_ at F;obtain⟨e,b,rfl⟩:=ab.iface;have K:=hd (h2.apart S.out (by decide) n H);have j:=h2.apart U.out (by decide) D H;have hz5:=H.size;have a1:=A1 (i:=1) j rfl;have f1:=B2 (i:=1) j;have o:=hd (A4 (i:=1) j (.iface e b));have G:=hd (Q.setNew j (by decide) (by omega) 1 (.iface e b));have aa:=hd (ab.keep (w':=w5.setCell ⟨z1,1,none⟩ (.iface e b)) (fun c cur hc _ _=>(z3 _ _ _ _ (show c≠z1 by omega))));have m:=hd ((I.out.trans H).setNew (show w.heap.size≤z1 by omega) 1 (.iface e b));have q:=hd ((z3 w5 ⟨z1,1,none⟩ (.iface e b) w.heap.size (show w.heap.size≠z1 by omega)).trans K.out);have C:d<10:=by
    by_cases hh:d<10
    ·exact hh
    ·rw[if_neg hh] at F;cases F
   rw[if_pos C] at F;rw[if_pos C,F] at A no;clear ab H j I K;replace Q:=hd Q;replace F:=hd F;go_wp2_with (fail);refine B68 (s:=wRB) G.out (by decide) _ ?_ ?_
   ·intro eR P O l;have hy:=hd (A.out (some i) (k'+1) (by simp only[Option.bind_some];unfold B6;rw[eR];exact if_pos (beq_self_eq_true _)) (by omega));have g:=G.out.apart o.out (by decide) D l;have a:=G.out.apart q.out (by decide) n l;have Y:=l.exIn G.out aa.out (by omega);have hz7:=l.size;rw[z5] at hz7;have J:=hd (m.out.trans l);have e0':=A1 (i:=0) g rfl;have e1:=A1 (i:=1) g rfl;have a0:=A1 (i:=0) a rfl;have N:=A1 (i:=1) a rfl;have fa:=B2 (i:=0) a;have fb:=B2 (i:=1) a;clear l m o aa a1 f1 q G Q;replace O:=hd O;replace Y:=hd Y;generalize y:w.heap.size=z at*;replace y:=hd y;clear hn X eR;generalize A0 L k=s at*;replace g:=hd g;replace a:=hd a;go_wp2;have r0:((P.setCell ⟨z,0,none⟩ (Value.string s)).setCell ⟨z,1,none⟩ (.iface e b)).cell? ⟨z,0,none⟩=some (.string s):=(by rw[z2 _ _ _ _ (by simp)];exact z4 _ _ _ a0);have r1:((P.setCell ⟨z,0,none⟩ (Value.string s)).setCell ⟨z,1,none⟩ (.iface e b)).cell? ⟨z,1,none⟩=some (.iface e b):=z4 _ _ _ (by rw[z2 _ _ _ _ (by simp)];exact N);refine bodyPost_ret (v:=.agg #[.string s,.iface e b]) (by simp[results,Tryz.results232,go_sem,r0,r1]) rfl ?_;have hps:=(O.out.setNew a.out (by decide) E 0 (.string s)).setNew (A4 a.out _) (by decide) E 1 (.iface e b);have hsz:((P.setCell ⟨z,0,none⟩ (Value.string s)).setCell ⟨z,1,none⟩ (.iface e b)).heap.size=P.heap.size:=(by rw[z5,z5]);refine hy.out _ (.iface e b) T hps ((J.out.setNew (z6 y.out) 0 _).setNew (z6 y.out) 1 _) ⟨⟨_,_,rfl⟩,?_⟩;rw[hsz];exact (Y.out.keep (fun c cur hc _ _=>by rw[z3 _ _ _ _ (show c≠z by omega),z3 _ _ _ _ (show c≠z by omega)])).wide (by omega) hz7
   ·intro eR P O l;have hy:=hd (no.out (by simp only[Option.bind_some];unfold B6;rw[eR];rfl));have g:=G.out.apart o.out (by decide) D l;have a:=G.out.apart q.out (by decide) n l;have J:=hd (m.out.trans l);have e0':=A1 (i:=0) g rfl;have e1:=A1 (i:=1) g rfl;have a0:=A1 (i:=0) a rfl;have N:=A1 (i:=1) a rfl;have fa:=B2 (i:=0) a;have fb:=B2 (i:=1) a;clear l m o aa a1 f1 q G Q;replace O:=hd O;generalize y:w.heap.size=z at*;replace y:=hd y;clear hn X eR;generalize A0 L k=s at*;replace g:=hd g;replace a:=hd a;go_wp2;have r0:((P.setCell ⟨z,0,none⟩ (Value.string s)).setCell ⟨z,1,none⟩ (.iface e b)).cell? ⟨z,0,none⟩=some (.string s):=(by rw[z2 _ _ _ _ (by simp)];exact z4 _ _ _ a0);have r1:((P.setCell ⟨z,0,none⟩ (Value.string s)).setCell ⟨z,1,none⟩ (.iface e b)).cell? ⟨z,1,none⟩=some (.iface e b):=z4 _ _ _ (by rw[z2 _ _ _ _ (by simp)];exact N);refine bodyPost_ret (v:=.agg #[.string s,.iface e b]) (by simp[results,Tryz.results232,go_sem,r0,r1]) rfl ?_;exact hy.out _ e b _ T ((O.out.setNew a.out (by decide) E 0 (.string s)).setNew (A4 a.out _) (by decide) E 1 (.iface e b)) ((J.out.setNew (z6 y.out) 0 _).setNew (z6 y.out) 1 _)
  ·intro F w5 vi us5 T Q H hv5;change (if d<10 then pE L f (k+2) (d+1) else none)=_ at F;obtain⟨e,b,rfl⟩:=hv5;have K:=hd (h2.apart S.out (by decide) n H);have j:=h2.apart U.out (by decide) D H;have hz5:=H.size;have a1:=A1 (i:=1) j rfl;have f1:=B2 (i:=1) j;have o:=hd (A4 (i:=1) j (.iface e b));have G:=hd (Q.setNew j (by decide) (by omega) 1 (.iface e b));have m:=hd ((I.out.trans H).setNew (show w.heap.size≤z1 by omega) 1 (.iface e b));have q:=hd ((z3 w5 ⟨z1,1,none⟩ (.iface e b) w.heap.size (show w.heap.size≠z1 by omega)).trans K.out);have hy:=hd (no.out (by
    by_cases C:d<10
    ·rw[if_pos C] at F;rw[if_pos C,F];rfl
    ·rw[if_neg C]))
   clear H j I K;replace Q:=hd Q;go_wp2_with (fail);refine B0m (s:=wRB) G.out (by kernel_rfl) _ ?_;intro P O l;have g:=G.out.apart o.out (by decide) D l;have a:=G.out.apart q.out (by decide) n l;have J:=hd (m.out.trans l);have e0':=A1 (i:=0) g rfl;have e1:=A1 (i:=1) g rfl;have a0:=A1 (i:=0) a rfl;have N:=A1 (i:=1) a rfl;have fa:=B2 (i:=0) a;have fb:=B2 (i:=1) a;clear l m o a1 f1 q G Q;replace O:=hd O;generalize y:w.heap.size=z at*;replace y:=hd y;clear hn X;generalize A0 L k=s at*;replace g:=hd g;replace a:=hd a;go_wp2;have r0:((P.setCell ⟨z,0,none⟩ (Value.string s)).setCell ⟨z,1,none⟩ (.iface e b)).cell? ⟨z,0,none⟩=some (.string s):=(by rw[z2 _ _ _ _ (by simp)];exact z4 _ _ _ a0);have r1:((P.setCell ⟨z,0,none⟩ (Value.string s)).setCell ⟨z,1,none⟩ (.iface e b)).cell? ⟨z,1,none⟩=some (.iface e b):=z4 _ _ _ (by rw[z2 _ _ _ _ (by simp)];exact N);refine bodyPost_ret (v:=.agg #[.string s,.iface e b]) (by simp[results,Tryz.results232,go_sem,r0,r1]) rfl ?_;exact hy.out _ e b us5 T ((O.out.setNew a.out (by decide) E 0 (.string s)).setNew (A4 a.out _) (by decide) E 1 (.iface e b)) ((J.out.setNew (z6 y.out) 0 _).setNew (z6 y.out) 1 _)
theorem D0 {w:WD}{lo hi b:Nat}{g:Option Nat}{i:Nat}{v:VL}(a:b<lo∨hi≤b):A02 w (w.setCell ⟨b,i,none⟩ v) lo hi g:=fun c _ _ _ d e _ _=>z3 _ _ _ _ (show c≠b by omega)
theorem C2.wide {w:WD}{lo hi lo' hi' T a n:Nat}{v:VL}{xs:List VL}(h:C2 w lo hi T a v n xs)(f:lo'≤lo)(d:hi≤hi'):C2 w lo' hi' T a v n xs:=by
 refine⟨⟨h.1.1,?_⟩,fun g b=>y1 (h.2 g b) d⟩;rcases h.1.2 with c|⟨g,cap,cur,rfl,e,r⟩
 ·exact .inl c
 ·exact .inr ⟨g,cap,cur,rfl,by omega,r⟩
end Go.Proofs.YtidhiaaicmfabaaGreatDoor
