/- Texts (its parts, joined). -/
import Derived.Test.YtidhiaaicmfabaaGreatDoorTqAJ
import Derived.Test.YtidhiaaicmfabaaGreatDoorShelfA
import Derived.Deep.LoopGhost
open List renaming getElem?_append_right→z0,getElem?_append_left→z1
open Nat renaming le_refl→z3
namespace Go.Proofs.YtidhiaaicmfabaaGreatDoor
open Go.RowKit Go.Proofs Go.Deep
set_option maxRecDepth 100000
set_option maxHeartbeats 4000000
open World renaming cell?_of_block→z2
theorem A8M (w:WD)(s:BA)(h:0<s.size)(f:s.size≤12)(g:I3 (bt s 0)=true)(d:∀(j:Nat) (b:UInt8),s.data.toList[j]? =some b→b.toNat<128)(n:(s.toList==(⟨(Lib.toLowerA s.data.toList).toArray⟩:BA).toList)=false)(R:RP)(c:∀w',Below w.heap.size w w'→R (.returned (.bool false)) w'):Calls Tryz.prog 221 #[.string s] w R:=by have k:=J4 s 0 h;have m:(0:Int)<(s.size:Int):=(by omega);have i:=A1o (t:=s) (by omega);have l:decide ((s.size:Int)≤12)=true:=(by simp;omega);replace c:=hd c;replace d:=hd d;go_enter Tryz.func221,Tryz.ntmps221;go_wp2_with (first|(go_at_call 190;refine G3 _ _ _ ?_;rw[g]));refine (Tryz.strings_ToLower_ascii s _ (by omega) d.out).mono ?_;rintro e w' ⟨rfl,a⟩;generalize (⟨(Lib.toLowerA s.data.toList).toArray⟩:BA)=z at*;replace a:=hd a;go_wp2;exact A6 (c.out _ a.out) (by first|rfl|simp)
mutual
theorem A62:∀s:Q3,0≤H7 s
 |.set _ e=>by have:=B4 e;simp only[H7];omega
 |.setx _ i e=>by have:=B4 e;have:=B4 i;simp only[H7];omega
 |.ife c _ _=>by have:=B4 c;simp only[H7];omega
 |.cas e _ _=>by have:=B4 e;simp only[H7];omega
 |.loop _ _ _ b=>by have:=O2 b;simp only[H7];omega
theorem O2:∀l:Sl,0≤H8 l
 |.nil=>Int.le_refl _
 |.cons _ t=>by have:=O2 t;simp only[H8];omega
end
theorem Ps.grow {B bp:Nat}{pv:VL}{L:LB}{k:Nat}{d:Int}{us:LB}{uv:VL}{w w':WD}(h:Ps B bp pv L k d us uv w){f T F n:Nat}{lv:VL}{xs:List VL}(c:w.ownsRow f T F lv n xs)(K:T≠9)(hB:B≤f)(D:w.heap.size≤w'.heap.size)(p:∀b,b<w.heap.size→lv.ownBlock≠some b→w'.heap[b]? =w.heap[b]?):Ps B bp pv L k d us uv w':=by
 have s:=h.lt;have J:=h.le;have m:=h.pa.row.lt;have g:∀b,b<B→lv.ownBlock≠some b:=fun b R e=>by have:=(c.lt b e).1;omega
 refine⟨?_,A5 h.own (fun j i I u=>p j u (fun e=>?_)),h.lt,Nat.le_trans h.le D,h.few,h.old,fun j x H=>(z2 (w:=w) (a:=⟨4,j,none⟩) (p 4 (by have:=h.opB.1;omega) (g 4 h.opB.1))).trans (h.ops j x H),h.opB⟩
 ·obtain⟨G,A,e,P,r⟩:=h.pa.parts;refine⟨h.pa.row.of_block (p _ m (g _ s)),h.pa.le,h.pa.sm,G,A,e,P,fun O=>?_⟩;obtain⟨q,o,t,y,M⟩:=r O;have N:=h.old q A (by rw[e,o]);exact⟨q,o,t,Nat.lt_of_lt_of_le y D,fun j x i=>(z2 (w:=w) (a:=⟨q,j,none⟩) (p q y (g q N))).trans (M j x i)⟩
 ·rcases h.own.2 with ⟨rfl,_⟩|⟨g',cap,E,rfl,_,l,_⟩
  ·simp[Value.ownBlock] at i
  ·simp only[Value.ownBlock,Option.some.injEq] at i;subst i;rcases c.2 with ⟨rfl,_⟩|⟨Q,C,z,rfl,_,v,_⟩
   ·simp[Value.ownBlock] at e
   ·simp only[Value.ownBlock,Option.some.injEq] at e;subst e;rw[v] at l;injection l with o;injection o with _ t;exact K t
theorem Fu.grow {bp:Nat}{u d lv:VL}{a w w':WD}(h:Fu bp u d a w)(l:w'.os=w.os)(i:w'.tape=w.tape)(o:w'.output=w.output)(n:w.heap.size≤w'.heap.size)(g:∀b,b<w.heap.size→lv.ownBlock≠some b→w'.heap[b]? =w.heap[b]?)(m:∀b,lv.ownBlock=some b→a.heap.size≤b):Fu bp u d a w':=
 ⟨l.trans h.os,i.trans h.tape,o.trans h.output,Nat.le_trans h.size n,fun j c k f=>(g j (Nat.lt_of_lt_of_le c h.size) (fun e=>by have:=m j e;omega)).trans (h.block j c k f),h.own⟩
theorem B3W:Tryz.prog.underlying 85=some (.slice 240):=by kernel_rfl
theorem B2I:(Tryz.prog.info? 240).map (fun i=>(i.zero,i.size,i.bytes))=some (some .nilIface,1,16):=by kernel_rfl
theorem B8N (t:Nat)(u:VL):∀x∈[Value.iface t u],x.oneCell'=true:=by intro x a;simp only[List.mem_cons,List.not_mem_nil,or_false] at a;subst a;rfl
structure Vd where
 name:BA
 role:Nat
 kind:Nat
 arr:Bool
 len:Int
def vdF (v:Vd)(a:Int)(i:Nat):VL:=if i=0 then .string v.name else if i=1 then .int .u8 v.role else if i=2 then .int .u8 v.kind else if i=3 then .bool v.arr else if i=4 then .int .i64 v.len else .int .u8 a
def A3h (a:List Nat):List VL:=a.map (fun b=>.pointer (some ⟨b,0,none⟩))
structure G9 (fst:Nat→Int)(lo:Nat)(w:WD)(vs:List Vd)(bs:List Nat):Prop where
 len:bs.length=vs.length
 inc:bs.Pairwise (· <·)
 row:∀(i:Nat) (v:Vd) (b:Nat),vs[i]? =some v→bs[i]? =some b→lo≤b∧w.rowIs b 147 6 (vdF v (fst i))
theorem G9.keep {a:Nat→Int}{lo:Nat}{w w':WD}{vs:List Vd}{d:List Nat}(h:G9 a lo w vs d)(g:∀b cur,lo≤b→w.heap[b]? =some (.cells cur 147 (0,0))→w'.heap[b]? =w.heap[b]?):G9 a lo w' vs d:=
 ⟨h.len,h.inc,fun i v b j l=>by
  obtain⟨e,m⟩:=h.row i v b j l;obtain⟨c,f,k⟩:=m;exact⟨e,c,(g b c e f).trans f,k⟩⟩
theorem G9.snoc {a:Nat→Int}{lo:Nat}{w:WD}{vs:List Vd}{g:List Nat}(h:G9 a lo w vs g){v:Vd}{b:Nat}(k:a vs.length=0)(f:lo≤b)(m:∀x∈g,x<b)(n:w.rowIs b 147 6 (vdF v 0)):G9 a lo w (vs++[v]) (g++[b]):=by
 refine⟨by simp[h.len],?_,fun i u c d e=>?_⟩
 ·rw[List.pairwise_append];exact⟨h.inc,List.pairwise_singleton _ _,fun x l y j=>by simp only[List.mem_singleton] at j;subst j;exact m x l⟩
 ·by_cases hi:i<vs.length
  ·rw[z1 hi] at d;rw[z1 (by rw[h.len];exact hi)] at e;exact h.row i u c d e
  ·have hi2:i=vs.length:=(by have:=(List.getElem?_eq_some_iff.1 d).1;simp at this;omega);subst hi2;rw[z0 (z3 _)] at d;rw[z0 (by rw[h.len];exact z3 _)] at e;simp only[Nat.sub_self,h.len,List.getElem?_cons_zero,Option.some.injEq] at d e;subst d;subst e;rw[k];exact⟨f,n⟩
theorem B5G:Tryz.prog.underlying 84=some (.slice 144):=by kernel_rfl
theorem B4Q:(Tryz.prog.info? 144).map (fun i=>(i.zero,i.size,i.bytes))=some (some (.pointer none),1,8):=by kernel_rfl
theorem A76 (a:Option Addr):∀x∈[Value.pointer a],x.oneCell'=true:=by intro x b;simp only[List.mem_cons,List.not_mem_nil,or_false] at b;subst b;rfl
theorem A2T {w w':WD}{a T d n:Nat}{lv:VL}{xs:List VL}(h:w.ownsRow a T d lv n xs)(e:∀(b:Nat) (cur:Array VL),w.heap[b]? =some (.cells cur T (0,0))→w'.heap[b]? =w.heap[b]?):w'.ownsRow a T d lv n xs:=by
 refine⟨h.1,?_⟩;rcases h.2 with i|⟨g,cap,cur,rfl,f,c,r⟩
 ·exact .inl i
 ·exact .inr ⟨g,cap,cur,rfl,f,(e g cur c).trans c,r⟩
structure B55 (w0 w:WD)(B:Nat)(vs:List Vd)(bs:List Nat)(us:LB)(body:Sl)(xs:List VL)(vv uv bv:VL):Prop where
 vown:w.ownsRow w0.heap.size 144 1 vv vs.length (A3h bs)
 vars:G9 (fun _=>0) w0.heap.size w vs bs
 used:w.ownsRow B 9 1 uv us.length (N6 us)
 bown:w.ownsRow w0.heap.size 240 1 bv body.len xs
 body:∃lo,w0.heap.size≤lo∧G1 (fun _=>0) bv.ownBlock body lo w.heap.size w xs
theorem A0J {w:WD}{b a T c n:Nat}{v:VL}{xs:List VL}(h:w.ownsRow b T c v n xs)(e:a≤b):w.ownsRow a T c v n xs:=by
 refine⟨h.1,?_⟩;rcases h.2 with d|⟨g,cap,cur,rfl,f,r⟩
 ·exact .inl d
 ·exact .inr ⟨g,cap,cur,rfl,by omega,r⟩
structure A5g (lo:Nat)(w:WD)(vs:List Vd)(bs:List Nat)(us:LB)(body:Sl)(xs:List VL)(vv uv bv:VL):Prop where
 vown:w.ownsRow lo 144 1 vv vs.length (A3h bs)
 vars:G9 (fun _=>0) lo w vs bs
 used:w.ownsRow lo 9 1 uv us.length (N6 us)
 bown:w.ownsRow lo 240 1 bv body.len xs
 body:G1 (fun _=>0) bv.ownBlock body lo w.heap.size w xs
theorem G9.low {a:Nat→Int}{lo lo':Nat}{w:WD}{vs:List Vd}{c:List Nat}(h:G9 a lo w vs c)(f:lo'≤lo):G9 a lo' w vs c:=⟨h.len,h.inc,fun i v b d e=>⟨by have:=(h.row i v b d e).1;omega,(h.row i v b d e).2⟩⟩
theorem A5g.keep {lo:Nat}{w w':WD}{vs:List Vd}{d:List Nat}{us:LB}{body:Sl}{xs:List VL}{e uv f:VL}(h:A5g lo w vs d us body xs e uv f)(a:Below w.heap.size w w'):A5g lo w' vs d us body xs e uv f:=
 ⟨A5 h.vown (fun j _ _ c=>a.block j c),h.vars.keep (fun b _ _ i=>a.block b (Array.getElem?_eq_some_iff.1 i).1),A5 h.used (fun j _ _ c=>a.block j c),A5 h.bown (fun j _ _ c=>a.block j c),(h.body.keep (fun b _ _ _ _ g _ _=>a.block b g)).wide (z3 _) a.size⟩
theorem A5g.set {lo:Nat}{w:WD}{vs:List Vd}{d:List Nat}{us:LB}{body:Sl}{xs:List VL}{e uv f:VL}(h:A5g lo w vs d us body xs e uv f){g:Nat}(m:g<lo)(i:Nat)(v:VL):A5g lo (w.setCell ⟨g,i,none⟩ v) vs d us body xs e uv f:=by have c:∀b,lo≤b→(w.setCell ⟨g,i,none⟩ v).heap[b]? =w.heap[b]? :=fun b k=>Below.heap_setCell _ _ _ _ (show b≠g by omega);refine⟨A5 h.vown (fun j _ a _=>c j a),h.vars.keep (fun b _ k _=>c b k),A5 h.used (fun j _ a _=>c j a),A5 h.bown (fun j _ a _=>c j a),?_⟩;rw[World.size_setCell];exact h.body.keep (fun b _ _ _ l _ _ _=>c b l)
theorem A18 (L:LB)(k:Nat)(s:BA)(h:L[k]? =some s):A0 L k=s:=by unfold A0;rw[List.getD_eq_getElem?_getD,h];rfl
end Go.Proofs.YtidhiaaicmfabaaGreatDoor
