/- Texts (its parts, joined). -/
import Derived.Test.YtidhiaaicmfabaaGreatDoorTqAH
import Derived.Deep.RegionHeldLaw
import Derived.Maps.AppendAt
import Derived.ArgAppend
import Derived.Defers
open Array renaming getElem?_eq_some_iff→z4
open Nat renaming le_refl→z5,le_of_eq→z7,le_trans→y2
open Int renaming le_refl→y3
namespace Go.Proofs.YtidhiaaicmfabaaGreatDoor
open Go.RowKit Go.Proofs Go.Deep
set_option maxRecDepth 100000
set_option maxHeartbeats 4000000
open World renaming cell?_of_block→z0,size_setCell→z3,cell?_setCell_other→z6,cell?_setCell_same→z9,block_lt_of_cell?→y0,frozen?_of_block→y1
open Below renaming heap_alloc→z2,heap_setCell→z8
section
theorem B2c {P:Program}(w:WD)(p:Nat)(t G e:TypeId)(i:TypeInfo)(z:VL)(d f:Nat)(I:P.underlying t=some (.slice e))(hi:P.info? e=some i)(Q:i.zero=some z)(k:i.size=d)(F:i.bytes=f)(C:z.cells.size=d)(B:0<d)(v:VL)(n:Nat)(xs:List VL)(l:w.ownsRow p e d v n xs)(a:Addr)(m c:Nat)(b:List VL)(H:b.length=m*d)(h:∀j u,b[j]? =some u→w.cell? (a.add j)=some u)(N:∀u∈b,u.oneCell'=true)(A:n+m≤maxLen)(o:(n+m)*f≤140737488355328)(s:p≤w.heap.size):∃y w',(Builtin.append_ #[t,t] G #[v,.slice (some a) m c]).run P w=.ok y w'∧w'.ownsRow p e d y (n+m) (xs++b)∧w.grownBy w' v.ownBlock∧(y.ownBlock=v.ownBlock∨(y.ownBlock=some w.heap.size∧w.grownBy w' none)):=by
 obtain⟨y,w',E,U,L,_,R⟩:=run_append_own_at (P:=P) w p t G e i z d f I hi Q k F C B v n xs l a m c b H h N A o s;refine⟨y,w',E,U,L,?_⟩;rcases R with e|e
 ·exact .inl e
 rcases l.2 with ⟨rfl,rfl⟩|⟨g,cap,cur,rfl,V,S,T,X,J,K⟩
 ·exact .inr ⟨e,L⟩
 ·by_cases q:n+m≤cap
  ·subst k;have D:n*i.size+b.length≤cur.size:=(by rw[H,J,←Nat.add_mul];exact Nat.mul_le_mul_right _ q);have x:=run_append_room (P:=P) w t G _ i I hi g n cap cur S a m c b H h N q D;rw[x] at E;injection E with O M;left;rw[←O];rfl
  ·have r:∀j u,xs[j]? =some u→w.cell? ((⟨g,0,none⟩:Addr).add j)=some u:=l.cells (g:=g) rfl;obtain⟨v2,Z,x,_,Y⟩:=run_append_arg_grows (P:=P) w t G _ i z d f I hi Q k F C B ⟨g,0,none⟩ n cap xs l.1 r a m c b H h (by omega) A o;rw[x] at E;injection E with O M;subst M;exact .inr ⟨e,Y⟩
theorem S5 {w:WD}{g e:Nat}{a:List VL}(d:w.heap[g]? =some (.cells a.toArray e)):∀j u,a[j]? =some u→w.cell? ((⟨g,0,none⟩:Addr).add j)=some u:=by intro j u c;have b:(⟨g,0,none⟩:Addr).add j=⟨g,j,none⟩:=(by unfold Addr.add;split<;>simp_all);rw[b,cell_of_row _ g j a.toArray e (0,0) d];simpa using c
theorem I5 {P:Program}(p:WD){B:Array Oper}{l:List Oper}{o:Oper}{a:Act}{Q:Exit→Act→WD→Prop}(E:o.guard=none)(s x:Operand)(t:TypeId)(X:o.op=.call { callee:=.builtin .append,args:=#[s,x],argTypes:=#[t,t]})(g:Nat)(e:TypeId)(z:VL)(b f:Nat)(O:P.underlying t=some (.slice e))(q:(P.info? e).map (fun i=>(i.zero,i.size,i.bytes))=some (some z,b,f))(I:z.cells.size=b)(H:0<b)(v:VL)(n:Nat)(xs:List VL)(S:a.eval s=v)(A:p.ownsRow g e b v n xs)(D:Addr)(m c:Nat)(d:List VL)(V:a.eval x=.slice (some D) m c)(R:d.length=m*b)(M:∀j u,d[j]? =some u→p.cell? (D.add j)=some u)(T:∀u∈d,u.oneCell'=true)(G:n+m≤maxLen)(k:(n+m)*f≤140737488355328)(r:g≤p.heap.size)(h:∀y w',w'.ownsRow g e b y (n+m) (xs++d)→p.grownBy w' v.ownBlock→(y.ownBlock=v.ownBlock∨(y.ownBlock=some p.heap.size∧p.grownBy w' none))→wpList P B Q l (a.put o.dst y) w'):wpList P B Q (o::l) a p:=by obtain⟨i,hi,C⟩:=Option.map_eq_some_iff.1 q;simp only[Prod.mk.injEq] at C;obtain⟨hz,F,J⟩:=C;refine wpList_plain E fun K Z=>?_;obtain⟨y,w',Y,U,N,L⟩:=B2c (P:=P) p g t o.type e i z b f O hi hz F J I H v n xs A D m c d R M T G k r;unfold Oper.wp execOp;simp only[X,resolve,invoke,builtin,Sem.run_bind,Sem.run_pure,Result.andThen_ok,List.map_toArray,List.map_cons,List.map_nil,S,V,Y];exact Z _ _ (h y w' U N L)
theorem A6L {w w':WD}{v:VL}{a:Addr}{u:VL}(c:w.grownBy w' v.ownBlock)(h:w.cell? a=some u)(b:some a.block≠v.ownBlock):w'.cell? a=some u:=by rw[z0 (c.block a.block (y0 w a h) b)];exact h
theorem A6M {w w':WD}{v:VL}{a:Addr}(d:w.grownBy w' v.ownBlock)(h:w.frozen? a=false)(c:a.block<w.heap.size)(b:some a.block≠v.ownBlock):w'.frozen? a=false:=by rw[y1 (d.block a.block c b)];exact h
theorem A1a {w:WD}{a:Addr}{v:VL}(h:w.cell? a=some v)(o:Obj):(w.alloc o).cell? a=some v:=by rw[World.cell?_alloc_lt _ _ _ (y0 w a h)];exact h
theorem B2g {w:WD}{a:Addr}(h:w.frozen? a=false)(b:a.block<w.heap.size)(o:Obj):(w.alloc o).frozen? a=false:=by rw[y1 (w:=w) (w':=w.alloc o) (z2 w o a.block b)];exact h
theorem A6r {w:WD}{o:Obj}{g:Nat}(h:g=w.heap.size):(w.alloc o).heap[g]? =some o:=by subst h;exact heap_alloc_new w o
theorem A5 {w w':WD}{a e f n:Nat}{v:VL}{xs:List VL}(h:w.ownsRow a e f v n xs)(j:∀k,v.ownBlock=some k→a≤k→k<w.heap.size→w'.heap[k]? =w.heap[k]?):w'.ownsRow a e f v n xs:=by
 obtain⟨l,c⟩:=h;refine⟨l,?_⟩;rcases c with c|⟨g,cap,cur,rfl,i,d,r⟩
 ·exact .inl c
 ·have b:g<w.heap.size:=(z4.1 d).1;exact .inr ⟨g,cap,cur,rfl,i,(j g rfl i b).trans d,r⟩
def opC:List VL:=(List.range 9).flatMap (fun o=>[.string (P6 o),.int .u8 (opF o),.int .u8 (opI o)])
structure Ps (B bp:Nat)(pv:VL)(L:LB)(k:Nat)(d:Int)(us:LB)(uv:VL)(w:WD):Prop where
 pa:Pa bp pv L k d uv false w
 own:w.ownsRow B 9 1 uv us.length (N6 us)
 lt:bp<B
 le:B≤w.heap.size
 few:us.length≤k
 old:∀g a,pv=.slice (some ⟨g,0,none⟩) L.length a→g<B
 ops:∀i v,opC[i]? =some v→w.cell? ⟨4,i,none⟩=some v
 opB:4<B∧4≠bp
section
variable {B bp:Nat}{pv:VL}{L:LB}{k:Nat}{d:Int}{us:LB}{uv:VL}{w:WD}
theorem Ps.only (h:Ps B bp pv L k d us uv w){k':Nat}{d':Int}{w':WD}(e:Pa bp pv L k' d' uv false w')(a:A8 bp w w')(c:k≤k'):Ps B bp pv L k' d' us uv w':=
 ⟨e,A5 h.own (fun j _ hB b=>a.block j b (by have:=h.lt;omega)),h.lt,y2 h.le a.size,y2 h.few c,h.old,fun i v f=>(a.cell (p:=⟨4,i,none⟩) (by have:=h.opB.1;have:=h.le;show 4<_;omega) h.opB.2).trans (h.ops i v f),h.opB⟩
end
theorem Pa.setUsed {bp:Nat}{pv:VL}{L:LB}{k:Nat}{d:Int}{uv:VL}{a:Bool}{w:WD}(h:Pa bp pv L k d uv a w)(b:VL):Pa bp pv L k d b a (w.setCell ⟨bp,3,none⟩ b):=h.set 3 _ h.le (fun i hi=>by have:i=0∨i=1∨i=2∨i=3∨i=4:=(by omega);rcases this with rfl|rfl|rfl|rfl|rfl<;>rfl)
theorem A6O {w:WD}{B bp:Nat}{pv:VL}{L:LB}{k:Nat}{d:Int}{us:LB}{uv:VL}(h:Ps B bp pv L k d us uv w)(hn:O9 (A0 L k))(R:RP)(q:∀w' F,Ps B bp pv L (k+1) d (us++[A0 L k]) F w'→Fu bp uv F w w'→R (.returned (.string (A0 L k))) w'):Calls Tryz.prog 238 #[.pointer (some ⟨bp,0,none⟩)] w R:=by
 replace q:=hd q;go_enter Tryz.func238,Tryz.ntmps238;go_wp2_with (fail);refine A68 _ h.pa hn _ ?_;intro w1 P p;have l:=h.only P p (by omega);have o:Fu bp uv uv w w1:=Fu.of_only p;have E:=h.few;clear p P h;generalize A0 L k=s at*;have c3:w1.cell? ⟨bp,3,none⟩=some uv:=l.pa.row.cell (i:=3) (by omega);have Y:=l.pa.row.frozen 3;have Q:=l.pa.row.lt;have A:=l.lt;have hle:=l.le;have aa:us.length≤1000000:=(by have:=l.few;have:=l.pa.le;have:=l.pa.sm;omega);have m:some bp≠uv.ownBlock:=fun e=>by have:=(l.own.lt bp e.symm).1;omega
 have D:some w1.heap.size≠uv.ownBlock:=fun e=>by have:=(l.own.lt w1.heap.size e.symm).2;omega
 obtain⟨u,t,rfl⟩:=A7 l.own;have hr:=hd l.own;replace m:=hd m;replace D:=hd D;replace l:=hd l;replace o:=hd o;go_wp2_with (first|(at_builtin;refine I5 _ rfl _ _ 81 rfl B 9 _ 1 16 A2H A0t rfl (by decide) _ us.length (N6 us) rfl (by exact hr.out.alloc _) ⟨w1.heap.size,0,none⟩ 1 1 [.string s] rfl rfl (by exact S5 (A6r (by simp))) (A3r _) (by unfold maxLen;omega) (by omega) (by simp;omega) ?_;intro v2 C f b n;obtain⟨y,z,rfl⟩:=A7 f;have cx:C.cell? ⟨bp,3,none⟩=some (.slice u us.length t):=A6L b (by exact A1a c3 _) m.out;have fx:C.frozen? ⟨bp,3,none⟩=false:=A6M b (by exact B2g Y Q _) (by simp;omega) m.out;replace f:=hd f;replace b:=hd b;replace n:=hd n));have O:A8 bp w1 (w1.alloc (Obj.cells #[.string s] 9)):=(A8.refl bp w1).alloc _;have G:∀i,i<w1.heap.size→(Value.slice u us.length t).ownBlock≠some i→C.heap[i]? =w1.heap[i]? :=fun i hi r=>(b.out.block i (by simp;omega) (fun e=>r e.symm)).trans (z2 _ _ _ hi);have c:=l.out;have J:(Value.slice u us.length t).ownBlock≠some bp:=fun e=>m.out e.symm;have K:Pa bp pv L (k+1) d (.slice u us.length t) false C:=by
  obtain⟨Z,N,e,hc,H⟩:=c.pa.parts;refine⟨c.pa.row.of_block (G _ Q J),c.pa.le,c.pa.sm,Z,N,e,hc,fun h0=>?_⟩;obtain⟨g,S,e2,M,e4⟩:=H h0;have U:(Value.slice u us.length t).ownBlock≠some g:=fun e=>by have:=c.old g N (by rw[←S];assumption);have:=(c.own.lt g e).1;omega
  exact⟨g,S,e2,Nat.lt_of_lt_of_le M (y2 O.size b.out.size),fun j x T=>(z0 (w:=w1) (a:=⟨g,j,none⟩) (G g M U)).trans (e4 j x T)⟩
 have I:w1.heap.size≤C.heap.size:=y2 O.size b.out.size;refine A6 (q.out _ (.slice y (us.length+1) z) ⟨K.setUsed _,?_,A,by rw[z3];omega,by rw[List.length_append];simpa using E,c.old,fun i v X=>?_,c.opB⟩ (o.out.trans ?_)) rfl;rotate_left
 ·have h4:(Value.slice u us.length t).ownBlock≠some 4:=fun e=>by have:=(c.own.lt 4 e).1;have:=c.opB.1;omega
  rw[z6 _ _ _ _ (by intro e;injection e with e;exact c.opB.2 e.symm)];exact (z0 (w:=w1) (a:=⟨4,i,none⟩) (G 4 (by have:=c.opB.1;omega) h4)).trans (c.ops i v X)
 rotate_left
 ·have:=ownsRow_setCell_below (a:=⟨bp,3,none⟩) f.out A (.slice y (us.length+1) z);rw[List.length_append];simpa[N6] using this
 ·refine⟨b.out.os,b.out.tape,b.out.output,by rw[z3];exact I,fun i hi r V=>?_,?_⟩
  ·rw[z8 _ _ _ _ r];exact G i hi V
  ·rcases n.out with e|⟨e,_⟩
   ·exact .inl e
   ·exact .inr ⟨_,e,by simp⟩
end
section
variable {B bp:Nat}{pv:VL}{L:LB}{k:Nat}{d:Int}{us:LB}{uv:VL}{w:WD}
theorem B6r (h:Ps B bp pv L k d us uv w){s:BA}(f:A0 L k=s)(g:s.size≠0)(R:RP)(a:∀w',Ps B bp pv L (k+1) d us uv w'→Fu bp uv uv w w'→R (.returned (.bool true)) w'):Calls Tryz.prog 196 #[.pointer (some ⟨bp,0,none⟩),.string s] w R:=
 A4I _ h.pa s f (fun e=>g (by rw[e];rfl)) _ (fun w' c b=>a w' (h.only c b (by omega)) (Fu.of_only b))
theorem B1r (h:Ps B bp pv L k d us uv w){s:BA}(e:((A0 L k).toList==s.toList)=false)(R:RP)(a:∀w',Ps B bp pv L k d us uv w'→Fu bp uv uv w w'→R (.returned (.bool false)) w'):Calls Tryz.prog 196 #[.pointer (some ⟨bp,0,none⟩),.string s] w R:=
 A5u _ h.pa s e _ (fun w' c b=>a w' (h.only c b (by omega)) (Fu.of_only b))
theorem B9X (h:Ps B bp pv L k d us uv w){s:BA}(f:A0 L k=s)(g:s.size≠0)(R:RP)(a:∀w',Ps B bp pv L (k+1) d us uv w'→Fu bp uv uv w w'→R (.returned (.tuple #[])) w'):Calls Tryz.prog 132 #[.pointer (some ⟨bp,0,none⟩),.string s] w R:=
 A77 _ h.pa s f (fun e=>g (by rw[e];rfl)) _ (fun w' c b=>a w' (h.only c b (by omega)) (Fu.of_only b))
theorem A7c (h:Ps B bp pv L k d us uv w)(R:RP)(a:∀w',Ps B bp pv L k d us uv w'→Fu bp uv uv w w'→R (.returned (.string (A0 L k))) w'):Calls Tryz.prog 134 #[.pointer (some ⟨bp,0,none⟩)] w R:=
 A03 _ h.pa _ (fun w' c b=>a w' (h.only c (A8.of_below b) (by omega)) (Fu.of_below b))
theorem B8o (h:Ps B bp pv L k d us uv w)(c:O9 (A0 L k))(R:RP)(a:∀w',Ps B bp pv L (k+1) d us uv w'→Fu bp uv uv w w'→R (.returned (.string (A0 L k))) w'):Calls Tryz.prog 197 #[.pointer (some ⟨bp,0,none⟩)] w R:=
 A68 _ h.pa c _ (fun w' e b=>a w' (h.only e b (by omega)) (Fu.of_only b))
theorem B5Y (h:Ps B bp pv L k d us uv w)(a:0≤d∧d≤9)(R:RP)(b:∀w',Ps B bp pv L k (d+1) us uv w'→Fu bp uv uv w w'→R (.returned (.tuple #[])) w'):Calls Tryz.prog 234 #[.pointer (some ⟨bp,0,none⟩)] w R:=
 B2Q _ h.pa a _ (fun w' e c=>b w' (h.only e c (by omega)) (Fu.of_only c))
theorem Ps.alloc (h:Ps B bp pv L k d us uv w)(o:Obj):Ps B bp pv L k d us uv (w.alloc o):=
 h.only (h.pa.below ((Below.refl _ w).alloc (z5 _) o)) ((A8.refl bp w).alloc o) (by omega)
theorem Ps.drew (h:Ps B bp pv L k d us uv w):Ps B bp pv L k d us uv w.drew:=
 h.only (h.pa.below (below_drewN (Below.refl _ w) 1)) ((A8.refl bp w).drew) (by omega)
theorem Ps.apart (h:Ps B bp pv L k d us uv w){g:Nat}{cur:Array VL}{T:Nat}{fz:Nat×Nat}(b:w.heap[g]? =some (.cells cur T fz))(m:T≠9)(hB:bp≠g){f:VL}{w':WD}(l:Fu bp uv f w w'):w'.heap[g]? =some (.cells cur T fz):=by
 have c:g<w.heap.size:=(z4.1 b).1;refine (l.block g c (fun e=>hB e.symm) (fun e=>?_)).trans b;rcases h.own.2 with ⟨rfl,_⟩|⟨g',cap,i,rfl,_,a,_⟩
 ·simp[Value.ownBlock] at e
 ·simp only[Value.ownBlock,Option.some.injEq] at e;subst e;rw[b] at a;injection a with j;injection j with _ n;exact m n
theorem Ps.setNew (h:Ps B bp pv L k d us uv w){g:Nat}{cur:Array VL}{T:Nat}{fz:Nat×Nat}(s:w.heap[g]? =some (.cells cur T fz))(A:T≠9)(hB:B≤g)(i:Nat)(v:VL):Ps B bp pv L k d us uv (w.setCell ⟨g,i,none⟩ v):=by
 have y:=h.lt;have p:=h.pa.row.lt;have l:∀j,j≠g→(w.setCell ⟨g,i,none⟩ v).heap[j]? =w.heap[j]? :=fun j b=>z8 _ _ _ _ b;refine⟨?_,A5 h.own (fun j b _ _=>l j (fun e=>?_)),h.lt,by rw[z3];exact h.le,h.few,h.old,fun j x u=>(z0 (w:=w) (a:=⟨4,j,none⟩) (l 4 (by have:=h.opB.1;omega))).trans (h.ops j x u),h.opB⟩
 ·obtain⟨z,r,e,E,m⟩:=h.pa.parts;refine⟨h.pa.row.of_block (l _ (by omega)),h.pa.le,h.pa.sm,z,r,e,E,fun D=>?_⟩;obtain⟨q,f,n,t,C⟩:=m D;have F:=h.old q r (by rw[e,f]);exact⟨q,f,n,by rw[z3];exact t,fun j x b=>(z0 (w:=w) (a:=⟨q,j,none⟩) (l q (by omega))).trans (C j x b)⟩
 ·subst e;rcases h.own.2 with ⟨rfl,_⟩|⟨g',cap,o,rfl,_,c,_⟩
  ·simp[Value.ownBlock] at b
  ·simp only[Value.ownBlock,Option.some.injEq] at b;subst b;rw[s] at c;injection c with f;injection f with _ n;exact A n
theorem Fu.setNew {u a:VL}{w':WD}(h:Fu bp u a w w'){g:Nat}(e:w.heap.size≤g)(i:Nat)(v:VL):Fu bp u a w (w'.setCell ⟨g,i,none⟩ v):=
 ⟨h.os,h.tape,h.output,by rw[z3];exact h.size,fun j c d b=>(z8 _ _ _ _ (by show j≠g;omega)).trans (h.block j c d b),h.own⟩
theorem A4 {g i T:Nat}{cur:Array VL}{fz:Nat×Nat}(h:w.heap[g]? =some (.cells cur T fz))(v:VL):(w.setCell ⟨g,i,none⟩ v).heap[g]? =some (.cells (cur.setIfInBounds i v) T fz):=by simp[World.setCell,Array.getElem?_modify,h]
end
theorem A2 {w:WD}{cur:Array VL}{T:Nat}{fz:Nat×Nat}:(w.alloc (.cells cur T fz)).heap[w.heap.size]? =some (.cells cur T fz):=heap_alloc_new w _
theorem A1 {w:WD}{g i:Nat}{cur:Array VL}{T:Nat}{fz:Nat×Nat}{v:VL}(h:w.heap[g]? =some (.cells cur T fz))(a:cur[i]? =some v):w.cell? ⟨g,i,none⟩=some v:=by simp[World.cell?,h,a]
theorem B2 {w:WD}{g i:Nat}{cur:Array VL}{T:Nat}(h:w.heap[g]? =some (.cells cur T)):w.frozen? ⟨g,i,none⟩=false:=by simp[World.frozen?,h]
theorem A6Y {w:WD}{B bp:Nat}{pv:VL}{L:LB}{k:Nat}{d:Int}{us:LB}{uv:VL}(h:Ps B bp pv L k d us uv w)(D:O9 (A0 L k))(A:((A0 L (k+1)).toList==wLB.toList)=false)(R:RP)(f:∀w' n,Ps B bp pv L (k+1) d (us++[A0 L k]) n w'→Fu bp uv n w w'→R (.returned (.agg #[.string (A0 L k),.nilIface])) w'):Calls Tryz.prog 232 #[.pointer (some ⟨bp,0,none⟩)] w R:=by have m:bp≠w.heap.size:=(by have:=h.pa.row.lt;omega);have g:=h.le;replace f:=hd f;go_enter Tryz.func232,Tryz.ntmps232;go_wp2_with (fail);refine A6O (h.alloc _) D _ ?_;intro w1 r j e;have o:=(h.alloc _).apart A2 (by decide) m e;have l:=hd (((Fu.of_below (bp:=bp) (u:=uv) ((Below.refl _ w).alloc (z5 _) _)).trans e));have x:bp≠w1.heap.size:=(by have:=j.pa.row.lt;omega);have y:w.heap.size<w1.heap.size:=(by have:=e.size;simp at this;omega);clear e h;go_wp2_with (fail);refine B1r (s:=wLB) (j.alloc _) A _ ?_;intro C t b;have a:=(j.alloc (Obj.cells #[Value.string (A0 L k),Value.nilIface] 305)).apart ((z2 _ _ _ y).trans o) (by decide) m b;have c:=(j.alloc _).apart A2 (by decide) x b;have H:=A1 (i:=0) a rfl;have F:=A1 (i:=1) a rfl;have J:=A1 (i:=0) c rfl;have K:=A1 (i:=1) c rfl;have M:=B2 (i:=0) a;have N:=B2 (i:=1) a;have I:=b.size;have q:=hd (l.out.trans (((Fu.of_below ((Below.refl _ w1).alloc (z5 _) _)).trans b)));replace t:=hd t;generalize p:w.heap.size=z at*;replace p:=hd p;generalize w1.heap.size=z1 at*;clear o b j l D A;generalize A0 L k=s at*;replace a:=hd a;replace c:=hd c;go_wp2;have E:((C.setCell ⟨z,0,none⟩ (Value.string s)).setCell ⟨z,1,none⟩ Value.nilIface).cell? ⟨z,0,none⟩=some (.string s):=(by rw[z6 _ _ _ _ (by simp)];exact z9 _ _ _ H);have G:((C.setCell ⟨z,0,none⟩ (Value.string s)).setCell ⟨z,1,none⟩ Value.nilIface).cell? ⟨z,1,none⟩=some .nilIface:=z9 _ _ _ (by rw[z6 _ _ _ _ (by simp)];exact F);refine bodyPost_ret (v:=.agg #[.string s,.nilIface]) (by simp[results,Tryz.results232,go_sem,E,G]) rfl ?_;exact f.out _ r ((t.out.setNew a.out (by decide) g 0 _).setNew (A4 a.out _) (by decide) g 1 _) ((q.out.setNew (z7 p.out) 0 _).setNew (z7 p.out) 1 _)
theorem A7N (o:Nat):(P6 o).size≠0:=by unfold P6;split<;>decide
theorem B65:((List.range 9).all fun o=>(List.range 9).all fun i=>i==o || !((P6 o).toList==(P6 i).toList))=true:=by kernel_rfl
theorem B9d {o i:Nat}(a:o<9)(hi:i<9)(h:i≠o):((P6 o).toList==(P6 i).toList)=false:=by have:=List.all_eq_true.1 (List.all_eq_true.1 B65 o (List.mem_range.2 a)) i (List.mem_range.2 hi);rw[beq_eq_false_iff_ne.2 h,Bool.false_or] at this;simpa using this
theorem B5A:∀(i:Nat),i<9→∀(w:WD),(Instr.index 362 (.agg opC.toArray) (.int .i64 (i:Int))).run Tryz.prog w=.ok (.agg #[.string (P6 i),.int .u8 (opF i),.int .u8 (opI i)]) w
 |0,_,_=>by kernel_rfl
 |1,_,_=>by kernel_rfl
 |2,_,_=>by kernel_rfl
 |3,_,_=>by kernel_rfl
 |4,_,_=>by kernel_rfl
 |5,_,_=>by kernel_rfl
 |6,_,_=>by kernel_rfl
 |7,_,_=>by kernel_rfl
 |8,_,_=>by kernel_rfl
 |_+9,h,_=>absurd h (by omega)
theorem A6y {w:WD}{B bp:Nat}{pv:VL}{L:LB}{k:Nat}{d:Int}{us:LB}{uv:VL}(h:Ps B bp pv L k d us uv w)(o:Nat)(V:o<9)(I:A0 L k=P6 o)(R:RP)(x:∀w',Ps B bp pv L (k+1) d us uv w'→Fu bp uv uv w w'→R (.returned (.agg #[.string (P6 o),.int .u8 (opF o),.int .u8 (opI o)])) w'):Calls Tryz.prog 262 #[.pointer (some ⟨bp,0,none⟩)] w R:=by
 have m:bp≠w.heap.size:=(by have:=h.pa.row.lt;omega);have n:=h.le;have T:4<w.heap.size:=(by have:=h.opB.1;omega);have u:∀i,i<9→i≠o→((A0 L k).toList==(P6 i).toList)=false:=fun i hi m=>by rw[I];exact B9d V hi m
 obtain⟨C,F⟩:∃C,C=opC:=⟨_,rfl⟩;have D:w.rangeAt 4 0 C:=fun j v J=>by rw[Nat.zero_add];exact h.ops j v (F▸J)
 have f:(w.alloc (Obj.cells #[.string ⟨#[]⟩,.int .u8 0,.int .u8 0] 349)).rangeAt 4 0 C:=fun j v J=>(z0 (w:=w) (a:=⟨4,0+j,none⟩) (z2 _ _ _ T)).trans (D j v J);have e:(Tryz.prog.info? 362).map (·.size)=some C.length:=(by rw[F];kernel_rfl);replace f:=hd f;replace e:=hd e;replace F:=hd F;clear D;replace x:=hd x;replace u:=hd u;replace h:=hd h;go_enter Tryz.func262,Tryz.ntmps262;go_wp2_with (refine wpList_load_mid rfl 362 _ rfl 4 0 rfl C (.array 9 349) f.out (by kernel_rfl) rfl e.out ?_);go_loopw [4,6] (fun q M wr=>∃i:Nat,i≤o∧M=.int .i64 (i:Int)∧Ps B bp pv L k d us uv wr∧Fu bp uv uv w wr∧wr.heap[w.heap.size]? =some (.cells #[.string ⟨#[]⟩,.int .u8 0,.int .u8 0] 349)) (fun _ M _=>9-(intOf M).toNat);case atStart=>exact⟨0,by omega,rfl,h.out.alloc _,Fu.of_below ((Below.refl _ w).alloc (z5 _) _),A2⟩
 case round=>
  obtain⟨i,hi,rfl,l,p,G⟩:=hrel;have E:=B5A i (by omega);rw[←F.out] at E;have P:=p.size;have A:w.heap.size<wr.heap.size:=(z4.1 G).1;have K:bp≠wr.heap.size:=(by have:=l.pa.row.lt;omega);have X:decide ((i:Int)<9)=true:=(by simp;omega);replace l:=hd l;replace p:=hd p;replace G:=hd G;go_wp2_with (fail);by_cases N:i=o
  ·subst N;refine B6r (s:=P6 i) (l.out.alloc _) I (A7N _) _ ?_;intro w1 t c;have b:=(l.out.alloc (Obj.cells #[.string (P6 i),.int .u8 (opF i),.int .u8 (opI i)] 349)).apart ((z2 _ _ _ A).trans G.out) (by decide) m c;have g:=(l.out.alloc _).apart A2 (by decide) K c;have a0:=A1 (i:=0) b rfl;have a1:=A1 (i:=1) b rfl;have a2:=A1 (i:=2) b rfl;have Z:=A1 (i:=0) g rfl;have e1:=A1 (i:=1) g rfl;have e2:=A1 (i:=2) g rfl;have fa:=B2 (i:=0) b;have fb:=B2 (i:=1) b;have Y:=B2 (i:=2) b;have U:=c.size;have r:=hd (p.out.trans (((Fu.of_below ((Below.refl _ wr).alloc (z5 _) _)).trans c)));replace t:=hd t;generalize H:w.heap.size=z at*;replace H:=hd H;generalize wr.heap.size=z1 at*;clear c l p I;generalize P6 i=s at*;generalize (opF i:Int)=fi at*;generalize (opI i:Int)=ii at*;replace b:=hd b;replace g:=hd g;go_wp2;have y:=A4 (i:=2) (A4 (i:=1) (A4 (i:=0) b.out (.string s)) (.int .u8 fi)) (.int .u8 ii);have O:=A1 (i:=0) y rfl;have Q:=A1 (i:=1) y rfl;have S:=A1 (i:=2) y rfl;refine bodyPost_ret (v:=.agg #[.string s,.int .u8 fi,.int .u8 ii]) (by simp[results,Tryz.results262,go_sem,O,Q,S]) rfl ?_;exact x.out _ (((t.out.setNew b.out (by decide) n 0 _).setNew (A4 b.out _) (by decide) n 1 _).setNew (A4 (A4 b.out _) _) (by decide) n 2 _) (((r.out.setNew (z7 H.out) 0 _).setNew (z7 H.out) 1 _).setNew (z7 H.out) 2 _)
  ·refine B1r (s:=P6 i) (l.out.alloc _) (u.out i (by omega) N) _ ?_;intro w1 t c;have b:=(l.out.alloc (Obj.cells #[.string (P6 i),.int .u8 (opF i),.int .u8 (opI i)] 349)).apart ((z2 _ _ _ A).trans G.out) (by decide) m c;have r:=hd (p.out.trans (((Fu.of_below ((Below.refl _ wr).alloc (z5 _) _)).trans c)));replace t:=hd t;replace b:=hd b;clear c l p I;go_wp2;exact⟨⟨i+1,by omega,by go_num,t.out,r.out,b.out⟩,by simp[intOf];omega⟩
def C7:Ex→LB
 |.lit _=>[]
 |.tru _=>[]
 |.plc s=>[s]
 |.idx s i=>s::C7 i
 |.bin _ l r=>C7 l++C7 r
 |.neg e=>C7 e
 |.sho e=>C7 e
 |.dly t a b=>t::(C7 a++C7 b)
def C5:Ex→Int
 |.lit _=>0
 |.tru _=>0
 |.plc _=>0
 |.idx _ i=>C5 i+1
 |.bin _ l r=>max (C5 l) (C5 r)+1
 |.neg e=>C5 e+1
 |.sho e=>C5 e+1
 |.dly _ a b=>max (C5 a) (C5 b)+1
def prF (b a:VL)(o:Nat)(c:Int)(i:Nat):VL:=if i=0 then b else if i=1 then a else if i=2 then .string (P6 o) else if i=3 then .int .u8 (opF o) else if i=4 then .int .u8 (opI o) else .int .u8 c
def E9 (kk:Ex→Int):Ex→Nat→Nat→WD→VL→Prop
 |.lit n,_,_,_,v=>v=.iface 331 (.agg #[.int .i64 n])
 |.tru b,_,_,_,v=>v=.iface 333 (.agg #[.bool b])
 |.plc s,_,_,_,v=>v=.iface 305 (.agg #[.string s,.nilIface])
 |.idx s i,lo,hi,w,v=>∃d,v=.iface 305 (.agg #[.string s,d])∧E9 kk i lo hi w d
 |.bin o l r,lo,hi,w,v=>∃b f h,v=.iface 346 (.pointer (some ⟨b,0,none⟩))∧lo≤b∧b<hi∧w.rowIs b 351 6 (prF f h o (kk (.bin o l r)))∧E9 kk l lo b w f∧E9 kk r (b+1) hi w h
 |.neg e,lo,hi,w,v=>∃c,v=.iface 335 (.agg #[c])∧E9 kk e lo hi w c
 |.sho e,lo,hi,w,v=>∃c,v=.iface 336 (.agg #[c])∧E9 kk e lo hi w c
 |.dly t a s,lo,hi,w,v=>∃g vs m,v=.iface 354 (.agg #[.string t,g,vs])∧lo≤m∧m≤hi∧E9 kk a lo m w g∧E9 kk s m hi w vs
theorem E9.keep {kk:Ex→Int}{w w':WD}:∀{e:Ex}{lo hi:Nat}{v:VL},E9 kk e lo hi w v→(∀b cur,lo≤b→b<hi→w.heap[b]? =some (.cells cur 351 (0,0))→w'.heap[b]? =w.heap[b]?)→E9 kk e lo hi w' v
 |.lit _,_,_,_,h,_=>h
 |.tru _,_,_,_,h,_=>h
 |.plc _,_,_,_,h,_=>h
 |.idx _ _,_,_,_,⟨vi,e1,h⟩,k=>⟨vi,e1,h.keep k⟩
 |.bin _ _ _,lo,hi,_,⟨b,vl,vr,e1,h1,h2,h3,h4,h5⟩,k=>⟨b,vl,vr,e1,h1,h2,by
  obtain⟨cur,g⟩:∃cur,w.heap[b]? =some (.cells cur 351 (0,0)):=(by obtain⟨c,g,_⟩:=h3;exact⟨c,g⟩);exact h3.of_block (k b cur h1 h2 g),h4.keep (fun c cur d f a=>k c cur d (by omega) a),h5.keep (fun c cur d f a=>k c cur (by omega) f a)⟩
 |.neg _,_,_,_,⟨vi,e1,h⟩,k=>⟨vi,e1,h.keep k⟩
 |.sho _,_,_,_,⟨vi,e1,h⟩,k=>⟨vi,e1,h.keep k⟩
 |.dly _ _ _,lo,hi,_,⟨va,vs,m,e1,h1,h2,h3,h4⟩,k=>⟨va,vs,m,e1,h1,h2,h3.keep (fun c cur d f a=>k c cur d (by omega) a),h4.keep (fun c cur d f a=>k c cur (by omega) f a)⟩
theorem E9.wide {kk:Ex→Int}{w:WD}:∀{e:Ex}{lo hi lo' hi':Nat}{v:VL},E9 kk e lo hi w v→lo'≤lo→hi≤hi'→E9 kk e lo' hi' w v
 |.lit _,_,_,_,_,_,h,_,_=>h
 |.tru _,_,_,_,_,_,h,_,_=>h
 |.plc _,_,_,_,_,_,h,_,_=>h
 |.idx _ _,_,_,_,_,_,⟨vi,e1,h⟩,a,b=>⟨vi,e1,h.wide a b⟩
 |.bin _ _ _,_,_,_,_,_,⟨b,vl,vr,e1,h1,h2,h3,h4,h5⟩,p,q=>⟨b,vl,vr,e1,by omega,by omega,h3,h4.wide p (by omega),h5.wide (by omega) q⟩
 |.neg _,_,_,_,_,_,⟨vi,e1,h⟩,a,b=>⟨vi,e1,h.wide a b⟩
 |.sho _,_,_,_,_,_,⟨vi,e1,h⟩,a,b=>⟨vi,e1,h.wide a b⟩
 |.dly _ _ _,_,_,_,_,_,⟨va,vs,m,e1,h1,h2,h3,h4⟩,a,b=>⟨va,vs,m,e1,by omega,by omega,h3.wide a (by omega),h4.wide (by omega) b⟩
theorem E9.iface {kk:Ex→Int}{w:WD}{e:Ex}{lo hi:Nat}{v:VL}(h:E9 kk e lo hi w v):∃t u,v=.iface t u:=by cases e<;>first|exact⟨_,_,h⟩|(obtain⟨_,a,_⟩:=h;exact⟨_,_,a⟩)|(obtain⟨_,_,_,a,_⟩:=h;exact⟨_,_,a⟩)
theorem B4:∀e:Ex,0≤C5 e
 |.lit _=>y3 _
 |.tru _=>y3 _
 |.plc _=>y3 _
 |.idx _ i=>by have:=B4 i;simp only[C5];omega
 |.bin _ l r=>by have:=B4 l;have:=B4 r;simp only[C5];omega
 |.neg e=>by have:=B4 e;simp only[C5];omega
 |.sho e=>by have:=B4 e;simp only[C5];omega
 |.dly _ a b=>by have:=B4 a;have:=B4 b;simp only[C5];omega
theorem Fu.exIn {kk:Ex→Int}{B bp:Nat}{pv:VL}{L:LB}{k:Nat}{d:Int}{us:LB}{uv a:VL}{w w':WD}(f:Fu bp uv a w w')(g:Ps B bp pv L k d us uv w){e:Ex}{lo hi:Nat}{v:VL}(h:E9 kk e lo hi w v)(i:bp<lo):E9 kk e lo hi w' v:=
 h.keep (fun b cur j _ c=>(g.apart c (by decide) (by omega) f).trans c.symm)
theorem S9 (w:WD)(bp:Nat)(d:Int)(c:0≤d∧d≤11)(f:w.cell? ⟨bp,2,none⟩=some (.int .i64 d))(g:w.frozen? ⟨bp,2,none⟩=false)(u:FrameMode):CallsD Tryz.prog 235 #[.pointer (some ⟨bp,0,none⟩)] u w fun b a w'=>a=u∧(b=.returned (.tuple #[])∧w'=w.setCell ⟨bp,2,none⟩ (.int .i64 (d-1))):=by have e:IntKind.i64.wrap (d-1)=d-1:=IntWalk.i64_in _ (by omega);go_enter_d Tryz.func235,Tryz.ntmps235;go_wp2;go_end0;exact⟨rfl,rfl⟩
theorem R5 {w:WD}{b T n:Nat}{cur:Array VL}{f:Nat→VL}(h:w.heap[b]? =some (.cells cur T))(c:cur.size=n)(a:∀i,i<n→cur[i]? =some (f i)):w.rowIs b T n f:=⟨cur,h,c,a⟩
theorem A0L (w:WD)(s:BA)(d:s.size=0∨I4 (bt s 0)=false)(R:RP)(a:R (.returned (.bool false)) w):Calls Tryz.prog 223 #[.string s] w R:=by
 replace a:=hd a;by_cases b:s.size=0
 ·have c:=A6s (t:=s) b;go_enter Tryz.func223,Tryz.ntmps223;go_wp2;exact A6 a.out rfl
 ·have c:=A1o (t:=s) b;have f:=J4 s 0 (by omega);have g:(0:Int)<(s.size:Int):=(by omega);have e:I4 (bt s 0)=false:=(by rcases d with h|h;exact absurd h b;exact h);go_enter Tryz.func223,Tryz.ntmps223;go_wp2_with (first|(go_at_call 193;refine J6 _ _ _ ?_;rw[e]));exact A6 a.out (by first|rfl|simp)
theorem A2Z (w:WD)(s:BA)(b:s.size≠0)(c:I4 (bt s 0)=true)(R:RP)(a:R (.returned (.bool true)) w):Calls Tryz.prog 223 #[.string s] w R:=by replace a:=hd a;have d:=A1o (t:=s) b;have e:=J4 s 0 (by omega);have f:(0:Int)<(s.size:Int):=(by omega);go_enter Tryz.func223,Tryz.ntmps223;go_wp2_with (first|(go_at_call 193;refine J6 _ _ _ ?_;rw[c]));exact A6 a.out (by first|rfl|simp)
mutual
inductive Q3 where
 |set (s:BA) (e:Ex)
 |setx (s:BA) (i e:Ex)
 |ife (c:Ex) (t o:Sl)
 |cas (e:Ex) (ws:Wl) (o:Sl)
 |loop (s:BA) (f l:Int) (b:Sl)
inductive Sl where
 |nil
 |cons (h:Q3) (t:Sl)
inductive Wl where
 |nil
 |cons (ns:List Int) (b:Sl) (t:Wl)
end
def Sl.app:Sl→Sl→Sl
 |.nil,r=>r
 |.cons h t,r=>.cons h (t.app r)
def Sl.len:Sl→Nat
 |.nil=>0
 |.cons _ t=>t.len+1
theorem Sl.app_nil:∀l:Sl,l.app .nil=l
 |.nil=>rfl
 |.cons h t=>by simp only[Sl.app];rw[Sl.app_nil t]
theorem Sl.app_assoc:∀a b c:Sl,(a.app b).app c=a.app (b.app c)
 |.nil,_,_=>rfl
 |.cons h t,b,c=>by simp only[Sl.app];rw[Sl.app_assoc t b c]
mutual
def G0:Q3→LB
 |.set s e=>s::C7 e
 |.setx s i e=>s::(C7 i++C7 e)
 |.ife c t o=>C7 c++(E0 t++E0 o)
 |.cas e ws o=>C7 e++(O3 ws++E0 o)
 |.loop s _ _ b=>s::E0 b
def E0:Sl→LB
 |.nil=>[]
 |.cons h t=>G0 h++E0 t
def O3:Wl→LB
 |.nil=>[]
 |.cons _ b t=>E0 b++O3 t
end
theorem A2y:∀a b:Sl,E0 (a.app b)=E0 a++E0 b
 |.nil,_=>rfl
 |.cons h t,b=>by simp only[Sl.app,E0,A2y t b,List.append_assoc]
mutual
def H7:Q3→Int
 |.set _ e=>C5 e
 |.setx _ i e=>max (C5 i+1) (C5 e)
 |.ife c t o=>max (C5 c) (max (H8 t) (H8 o))+1
 |.cas e ws o=>max (C5 e) (max (A1T ws) (H8 o))+1
 |.loop _ _ _ b=>H8 b+1
def H8:Sl→Int
 |.nil=>0
 |.cons h t=>max (H7 h) (H8 t)
def A1T:Wl→Int
 |.nil=>0
 |.cons _ b t=>max (H8 b) (A1T t)
end
def A2t (ns:List Int):List VL:=ns.map (fun n=>.int .i64 n)
def C2 (w:WD)(lo hi T a:Nat)(v:VL)(n:Nat)(xs:List VL):Prop:=w.ownsRow lo T a v n xs∧∀g,v.ownBlock=some g→g<hi
def Off (g:Option Nat)(a b:Nat):Prop:=∀x,g=some x→x<a∨b≤x
mutual
def Z9 (kk:Ex→Int):Q3→Nat→Nat→WD→VL→Prop
 |.set s e,lo,hi,w,v=>∃ve,v=.iface 309 (.agg #[.string s,.nilIface,ve])∧E9 kk e lo hi w ve
 |.setx s i e,lo,hi,w,v=>∃vi ve m,v=.iface 309 (.agg #[.string s,vi,ve])∧lo≤m∧m≤hi∧E9 kk i lo m w vi∧E9 kk e m hi w ve
 |.ife c t o,lo,hi,w,v=>∃vc vt vo m1 m2,v=.iface 311 (.agg #[vc,vt,vo])∧lo≤m1∧m1≤m2∧m2≤hi∧E9 kk c lo m1 w vc∧(∃xs,C2 w m1 m2 240 1 vt t.len xs∧G1 kk vt.ownBlock t m1 m2 w xs)∧(∃xs,C2 w m2 hi 240 1 vo o.len xs∧G1 kk vo.ownBlock o m2 hi w xs)
 |.cas e ws o,lo,hi,w,v=>∃vc vw vo m1 m2,v=.iface 314 (.agg #[vc,vw,vo])∧lo≤m1∧m1≤m2∧m2≤hi∧E9 kk e lo m1 w vc∧(∃n xs,C2 w m1 m2 317 2 vw n xs∧O5 kk vw.ownBlock ws m1 m2 w xs)∧(∃xs,C2 w m2 hi 240 1 vo o.len xs∧G1 kk vo.ownBlock o m2 hi w xs)
 |.loop s f l b,lo,hi,w,v=>∃vb,v=.iface 320 (.agg #[.string s,.int .i64 f,.int .i64 l,vb])∧(∃xs,C2 w lo hi 240 1 vb b.len xs∧G1 kk vb.ownBlock b lo hi w xs)
def G1 (kk:Ex→Int)(g:Option Nat):Sl→Nat→Nat→WD→List VL→Prop
 |.nil,_,_,_,xs=>xs=[]
 |.cons h t,lo,hi,w,xs=>∃v ys a b m,xs=v::ys∧lo≤a∧a≤b∧b≤m∧m≤hi∧Off g a b∧Z9 kk h a b w v∧G1 kk g t m hi w ys
def O5 (kk:Ex→Int)(g:Option Nat):Wl→Nat→Nat→WD→List VL→Prop
 |.nil,_,_,_,xs=>xs=[]
 |.cons ns b t,lo,hi,w,xs=>∃vn vb ys a m1 c m,xs=vn::vb::ys∧lo≤a∧a≤m1∧m1≤c∧c≤m∧m≤hi∧Off g a c∧C2 w a m1 2 1 vn ns.length (A2t ns)∧(∃zs,C2 w m1 c 240 1 vb b.len zs∧G1 kk vb.ownBlock b m1 c w zs)∧O5 kk g t m hi w ys
end
def A02 (w w':WD)(lo hi:Nat)(g:Option Nat):Prop:=∀b cur T,T≠9→lo≤b→b<hi→g≠some b→w.heap[b]? =some (.cells cur T (0,0))→w'.heap[b]? =w.heap[b]?
theorem A02.sub {w w':WD}{lo hi lo' hi':Nat}{g g':Option Nat}(h:A02 w w' lo hi g)(j:lo≤lo')(k:hi'≤hi)(c:∀b,lo'≤b→b<hi'→g'≠some b→g≠some b):A02 w w' lo' hi' g':=
 fun b cur T d e f i a=>h b cur T d (by omega) (by omega) (c b e f i) a
theorem C2.keep {w w':WD}{lo hi T b n:Nat}{v:VL}{xs:List VL}(h:C2 w lo hi T b v n xs)(d:T≠9)(k:A02 w w' lo hi none):C2 w' lo hi T b v n xs:=by
 refine⟨⟨h.1.1,?_⟩,h.2⟩;rcases h.1.2 with e|⟨g,cap,cur,rfl,c,a,r⟩
 ·exact .inl e
 ·exact .inr ⟨g,cap,cur,rfl,c,(k g cur T d c (h.2 g rfl) (by simp) a).trans a,r⟩
theorem E9.keep' {kk:Ex→Int}{w w':WD}{e:Ex}{lo hi:Nat}{v:VL}(h:E9 kk e lo hi w v)(k:A02 w w' lo hi none):E9 kk e lo hi w' v:=h.keep (fun b cur a c d=>k b cur _ (by decide) a c (by simp) d)
mutual
theorem Z9.keep {kk:Ex→Int}{w w':WD}:∀{s:Q3}{lo hi:Nat}{v:VL},Z9 kk s lo hi w v→A02 w w' lo hi none→Z9 kk s lo hi w' v
 |.set _ _,_,_,_,⟨ve,e1,h⟩,k=>⟨ve,e1,h.keep' k⟩
 |.setx _ _ _,_,_,_,⟨vi,ve,m,e1,h1,h2,h3,h4⟩,k=>⟨vi,ve,m,e1,h1,h2,h3.keep' (k.sub (by omega) (by omega) (by simp)),h4.keep' (k.sub (by omega) (by omega) (by simp))⟩
 |.ife _ _ _,_,_,_,⟨vc,vt,vo,m1,m2,e1,h1,h2,h3,h4,⟨xs,h5,h6⟩,⟨ys,h7,h8⟩⟩,k=>⟨vc,vt,vo,m1,m2,e1,h1,h2,h3,h4.keep' (k.sub (by omega) (by omega) (by simp)),⟨xs,h5.keep (by decide) (k.sub (by omega) (by omega) (by simp)),h6.keep (k.sub (by omega) (by omega) (by simp))⟩,⟨ys,h7.keep (by decide) (k.sub (by omega) (by omega) (by simp)),h8.keep (k.sub (by omega) (by omega) (by simp))⟩⟩
 |.cas _ _ _,_,_,_,⟨vc,vt,vo,m1,m2,e1,h1,h2,h3,h4,⟨n,xs,h5,h6⟩,⟨ys,h7,h8⟩⟩,k=>⟨vc,vt,vo,m1,m2,e1,h1,h2,h3,h4.keep' (k.sub (by omega) (by omega) (by simp)),⟨n,xs,h5.keep (by decide) (k.sub (by omega) (by omega) (by simp)),h6.keep (k.sub (by omega) (by omega) (by simp))⟩,⟨ys,h7.keep (by decide) (k.sub (by omega) (by omega) (by simp)),h8.keep (k.sub (by omega) (by omega) (by simp))⟩⟩
 |.loop _ _ _ _,_,_,_,⟨vb,e1,⟨xs,h5,h6⟩⟩,k=>⟨vb,e1,⟨xs,h5.keep (by decide) k,h6.keep (k.sub (by omega) (by omega) (by simp))⟩⟩
theorem G1.keep {kk:Ex→Int}{w w':WD}{g:Option Nat}:∀{l:Sl}{lo hi:Nat}{xs:List VL},G1 kk g l lo hi w xs→A02 w w' lo hi g→G1 kk g l lo hi w' xs
 |.nil,_,_,_,h,_=>h
 |.cons _ _,_,_,_,⟨v,ys,a,b,m,e1,h1,h2,h3,h4,h5,h6,h7⟩,k=>⟨v,ys,a,b,m,e1,h1,h2,h3,h4,h5,h6.keep (k.sub (by omega) (by omega) (fun c c1 c2 _ e=>by have:=h5 c e;omega)),h7.keep (k.sub (by omega) (by omega) (fun c c1 c2 c3=>c3))⟩
theorem O5.keep {kk:Ex→Int}{w w':WD}{g:Option Nat}:∀{l:Wl}{lo hi:Nat}{xs:List VL},O5 kk g l lo hi w xs→A02 w w' lo hi g→O5 kk g l lo hi w' xs
 |.nil,_,_,_,h,_=>h
 |.cons _ _ _,_,_,_,⟨vn,vb,ys,a,m1,c,m,e1,h1,h2,h3,h4,h5,h6,h7,⟨zs,h8,h9⟩,h10⟩,k=>⟨vn,vb,ys,a,m1,c,m,e1,h1,h2,h3,h4,h5,h6,h7.keep (by decide) (k.sub (by omega) (by omega) (fun d d1 d2 _ e=>by have:=h6 d e;omega)),⟨zs,h8.keep (by decide) (k.sub (by omega) (by omega) (fun d d1 d2 _ e=>by have:=h6 d e;omega)),h9.keep (k.sub (by omega) (by omega) (fun d d1 d2 _ e=>by have:=h6 d e;omega))⟩,h10.keep (k.sub (by omega) (by omega) (fun c c1 c2 c3=>c3))⟩
end
theorem G1.snoc {kk:Ex→Int}{w:WD}{g:Option Nat}{s:Q3}{v:VL}{a b hi:Nat}(f:Z9 kk s a b w v)(d:a≤b)(c:b≤hi)(e:Off g a b):∀{l:Sl}{lo:Nat}{xs:List VL},lo≤a→G1 kk g l lo a w xs→G1 kk g (l.app (.cons s .nil)) lo hi w (xs++[v])
 |.nil,lo,xs,h1,h=>by
  rw[show xs=[] from h];exact⟨v,[],a,b,b,rfl,h1,d,z5 _,c,e,f,rfl⟩
 |.cons _ _,lo,xs,h1,⟨v',ys,a',b',m,e1,p1,p2,p3,p4,p5,p6,p7⟩=>by
  rw[e1];exact⟨v',ys++[v],a',b',m,rfl,p1,p2,p3,by omega,p5,p6,G1.snoc f d c e p4 p7⟩
theorem G1.hole {kk:Ex→Int}{w:WD}{g g':Option Nat}:∀{l:Sl}{lo hi:Nat}{xs:List VL},G1 kk g l lo hi w xs→Off g' lo hi→G1 kk g' l lo hi w xs
 |.nil,_,_,_,h,_=>h
 |.cons _ _,_,_,_,⟨v,ys,a,b,m,e1,h1,h2,h3,h4,h5,h6,h7⟩,k=>⟨v,ys,a,b,m,e1,h1,h2,h3,h4,fun x e=>by have:=k x e;omega,h6,h7.hole (fun x e=>by have:=k x e;omega)⟩
theorem G1.wide {kk:Ex→Int}{w:WD}{g:Option Nat}:∀{l:Sl}{lo hi lo' hi':Nat}{xs:List VL},G1 kk g l lo hi w xs→lo'≤lo→hi≤hi'→G1 kk g l lo' hi' w xs
 |.nil,_,_,_,_,_,h,_,_=>h
 |.cons _ _,_,_,_,_,_,⟨v,ys,a,b,m,e1,h1,h2,h3,h4,h5,h6,h7⟩,p,q=>⟨v,ys,a,b,m,e1,by omega,h2,h3,by omega,h5,h6,h7.wide (z5 _) q⟩
theorem Z9.iface {kk:Ex→Int}{w:WD}{s:Q3}{lo hi:Nat}{v:VL}(h:Z9 kk s lo hi w v):∃t u,v=.iface t u:=by cases s<;>first|(obtain⟨_,a,_⟩:=h;exact⟨_,_,a⟩)|(obtain⟨_,_,_,a,_⟩:=h;exact⟨_,_,a⟩)|(obtain⟨_,_,_,_,_,a,_⟩:=h;exact⟨_,_,a⟩)
end Go.Proofs.YtidhiaaicmfabaaGreatDoor
