/- Texts (its parts, joined). -/
import Derived.Laws.CopyOwn
import Derived.Test.YtidhiaaicmfabaaGreatDoorTqAN
open Nat renaming mul_one→z0
namespace Go.Proofs.YtidhiaaicmfabaaGreatDoor
open Go.RowKit Go.Proofs Go.Deep
set_option maxRecDepth 100000
set_option maxHeartbeats 4000000
theorem A83 {α:Type}{L A C:List α}{x y p q:α}{n:Nat}(h:L.take n=A++x::y::C)(d:n≤L.length):(splice L A.length [p,q]).take n=A++p::q::C:=by have b:L=A++x::y::C++L.drop n:=(by rw[←h];exact (List.take_append_drop n L).symm);have a:n=(A++x::y::C).length:=(by rw[←h,List.length_take];omega);generalize L.drop n=T at b;subst b;have c:splice (A++x::y::C++T) A.length [p,q]=(A++p::q::C)++T:=(by unfold splice;simp[List.drop_append]);rw[c,a,show (A++x::y::C).length=(A++p::q::C).length by simp];exact List.take_left' rfl
theorem A8r {α:Type}{L b:List α}{a:Nat}(h:a+b.length≤L.length):(splice L a b).length=L.length:=by unfold splice;simp only[List.length_append,List.length_take,List.length_drop];omega
theorem A8A {P:Program}{n:Array Oper}{o:Oper}{a:Act}{w:WD}{K:Act→WD→Prop}{Q:Exit→Act→WD→Prop}{E:Prop}(y:o.guard=none)(d s:Operand)(u B:TypeId)(I:o.op=.call { callee:=.builtin .copy,args:=#[d,s],argTypes:=#[u,B]})(e:TypeId)(C:P.underlying u=some (.slice e))(z:(P.info? e).map (·.size)=some 1)(g i c l:Nat)(x:Addr)(f k:Nat)(hd:a.eval d=.slice (some ⟨g,i,none⟩) c l)(D:a.eval s=.slice (some x) f k)(cur:List VL)(t:TypeId)(A:w.heap[g]? =some (.cells cur.toArray t (0,0)))(m:List VL)(J:m.length=Nat.min f c)(p:∀j v,m[j]? =some v→w.cell? (x.add j)=some v)(r:i+m.length≤cur.length)(F:∀v∈m,v.oneCell'=true)(h:∀w',w'.heap[g]? =some (.cells (splice cur i m).toArray t (0,0))→(∀b:Nat,b≠g→w'.heap[b]? =w.heap[b]?)→w'.os=w.os→w'.tape=w.tape→w'.output=w.output→w'.heap.size=w.heap.size→K (a.put o.dst (goInt m.length)) w'):if Region.wanted o (yielded n a.tmps)=true then Oper.wp P o a w K Q else E:=by have G:Region.wanted o (yielded n a.tmps)=true:=(by simp[Region.wanted,y]);rw[if_pos G];have q:=run_copy_row (P:=P) w u B o.type e g i c l x f k cur.toArray t m C z A J p (by simpa using r) F;unfold Oper.wp;simp[execOp,I,resolve,invoke,builtin,hd,D,q,Result.andThen];exact h _ (by simpa[splice] using setRow_heap w g _ _ t _ A) (fun b H=>setRow_other w g b _ H) rfl rfl rfl (by simp[World.setRow])
theorem G6 {w:WD}{b e d n:Nat}{v:VL}{xs:List VL}(h:w.ownsRow b e d v n xs){j:Nat}(a:v.ownBlock=some j):∃cur,w.heap[j]? =some (.cells cur e (0,0)):=by
 rcases h.2 with ⟨c,i⟩|⟨g,cap,cur,c,_,f,_⟩
 ·rw[c] at a;cases a
 ·rw[c] at a;simp only[Value.ownBlock,Option.some.injEq] at a;subst a;exact⟨cur,f⟩
theorem Y6 (n:Nat):(two n).length=2:=rfl
theorem B92:(Tryz.prog.info? 5).map (·.size)=some 1:=by kernel_rfl
theorem A1U {B g bm:Nat}{f:Nat→Int}{vs:List Vd}{o:List Nat}{sp:Int}{m:Bool}{p:VL}{a:List Int}{w:WD}(h:Wr B g bm f vs o sp m p a w)(n:Int)(y:a.length+3≤1000000)(R:RP)(b:∀w' e,Wr B g bm f vs o sp m e (a++[n,0,0]) w'→Fu g p e w w'→R (.returned (.int .i64 ((a.length+1:Nat):Int))) w'):Calls Tryz.prog 318 #[.pointer (some ⟨g,0,none⟩),.int .u8 n] w R:=by replace b:=hd b;have v:=h.row.lt;go_enter Tryz.func318,Tryz.ntmps318;go_wp2_with (fail);have d:(w.alloc (Obj.cells #[.int .u8 n,.int .u8 0,.int .u8 0] 5)).heap[w.heap.size]? =some (.cells (O0 [n,0,0]).toArray 5):=A2;refine N7 (h.alloc _) [n,0,0] w.heap.size 3 3 rfl d (by simp only[List.length_cons,List.length_nil];omega) _ ?_;intro w3 u c j;have k:=hd (Fu.pre ((Below.refl _ w).alloc (Nat.le_refl _) _) j);have l:=A7 c.own;obtain⟨t,r,rfl⟩:=l;have s:w3.cell? ⟨g,1,none⟩=some (.slice t (a++[n,0,0]).length r):=c.row.cell (i:=1) (by omega);rw[show (a++[n,0,0]).length=a.length+3 by simp] at s;have q:=c.row.lt;have x:IntKind.i64.wrap (((a.length+3:Nat):Int)-2)=((a.length+1:Nat):Int):=(by rw[IntWalk.i64_in _ (by omega)];omega);replace c:=hd c;clear j d;go_wp2;exact A6 (b.out _ _ c.out k.out) (by show Value.int .i64 ((a.length+1:Nat):Int)=Value.int .i64 ((a.length:Int)+3-2);congr 1;omega)
theorem A6G (w:WD)(n:Nat)(_hn:n≤1000000)(R:RP)(a:R (.returned (.slice (some ⟨w.heap.size,0,none⟩) 2 2)) (w.alloc (Obj.cells (O0 (two n)).toArray 5))):Calls Tryz.prog 79 #[.int .i64 (n:Int)] w R:=by replace a:=hd a;go_enter Tryz.func79,Tryz.ntmps79;go_wp2;have e:(O0 (two n)).toArray=#[.int .u8 ((n:Int)/256%256),.int .u8 ((n:Int)%256)]:=(by unfold O0 two;simp only[List.map_cons,List.map_nil];have b:((n/256%256:Nat):Int)=(n:Int)/256%256:=(by omega);have c:((n%256:Nat):Int)=(n:Int)%256:=(by omega);rw[b,c]);have:=a.out;rw[e] at this;exact A6 this rfl
theorem B3T {B s bm:Nat}{U:Nat→Int}{vs:List Vd}{bs:List Nat}{sp:Int}{kp:Bool}{K:VL}{c:List Int}{w:WD}(h:Wr B s bm U vs bs sp kp K c w)(A C:List Int)(x y:Int)(X:c=A++x::y::C)(hl:c.length≤1000000)(R:RP)(H:∀w',Wr B s bm U vs bs sp kp K (A++two c.length++C) w'→Fu s K K w w'→R (.returned (.tuple #[])) w'):Calls Tryz.prog 306 #[.pointer (some ⟨s,0,none⟩),.int .i64 (A.length:Nat)] w R:=by
 have T:c.length=A.length+2+C.length:=(by rw[X];simp;omega);have c1:w.cell? ⟨s,1,none⟩=some K:=h.row.cell (i:=1) (by omega);have lb:=h.row.lt;obtain⟨hol,hor⟩:=h.own;rcases hor with ⟨_,e0⟩|⟨g,cap,cur,rfl,Y,S,P,I,V,p⟩
 ·omega
 have hgw:g<w.heap.size:=(Array.getElem?_eq_some_iff.1 S).1;have hgb:g≠s:=(by have:=h.lt;omega);have q:cur.toList.length=cap:=(by simpa using V);obtain⟨u,m⟩:∃u,u=cur.toList:=⟨_,rfl⟩;have r:cur=u.toArray:=(by rw[m]);rw[←m] at q p;rw[r] at S;rw[z0] at p;have Z:A.length+2≤c.length:=(by omega);have hNc:c.length≤cap:=(by omega);have o:(splice u A.length (O0 (two c.length))).take c.length=O0 (A++two c.length++C):=by
  have e1:O0 (two c.length)=[.int .u8 ((c.length/256%256:Nat):Int),.int .u8 ((c.length%256:Nat):Int)]:=rfl;have e2:A.length=(O0 A).length:=(by unfold O0;simp);have J:u.take c.length=O0 A++.int .u8 x::.int .u8 y::O0 C:=by
   rw[p];conv=>lhs;rw[X]
   unfold O0;simp
  rw[e1,e2,A83 J (by omega)];unfold O0 two;simp
 have d:(A++two c.length++C).length=c.length:=(by simp only[List.length_append,Y6];omega);have l:∀n j v,(O0 (two c.length))[j]? =some v→(((w.drewN n).alloc (Obj.cells (O0 (two c.length)).toArray 5))).cell? ((⟨w.heap.size,0,none⟩:Addr).add j)=some v:=fun n=>S5 (A2 (w:=w.drewN n));have D:=A7I (two c.length);have O:(O0 (two c.length)).length=2:=rfl;generalize E:O0 (two c.length)=TB at*;generalize M:c.length=N at*;generalize L:A.length=a at*;have t1:(a:Int)≤(N:Int):=(by omega);have t2:¬cap=a:=(by omega);have t3:(0:Int)≤(a:Int):=(by omega);have f:a+TB.length≤u.length:=(by omega);have k:TB.length=Nat.min 2 (N-a):=(by rw[O];simp only[Nat.min_def];split<;>omega);replace H:=hd H;replace h:=hd h;replace S:=hd S;replace l:=hd l;replace o:=hd o;replace X:=hd X;replace d:=hd d;replace f:=hd f;replace k:=hd k;replace D:=hd D;replace q:=hd q;clear V hol p T Z hNc O m r;replace E:=hd E;replace M:=hd M;replace L:=hd L;go_enter Tryz.func306,Tryz.ntmps306;go_wp2_with (fail);go_region_law
  (first
   |(go_simp;go_at_call 79;refine A6G _ N (by omega) _ ?_;rw[E.out];go_simp)
   |(refine A8A (by rfl) _ _ 133 133 (by rfl) 5 A2S B92 g a (N-a) (cap-a) ⟨w.heap.size,0,none⟩ 2 2 (by rfl) (by rfl) u 5 (by exact (Below.heap_alloc _ _ _ hgw).trans S.out) TB k.out (by exact l.out 1) f.out D.out ?_;intro w4 z G o4 t4 u4 s4;replace z:=hd z;replace G:=hd G;replace s4:=hd s4))
 all_goals
  go_wp2
  go_end0
  have Q:∀b:Nat,b<w.heap.size→b≠g→w4.heap[b]? =w.heap[b]? :=fun b hb F=>(G.out b F).trans (Below.heap_alloc _ _ _ hb)
  have t:w.heap.size≤w4.heap.size:=by rw[s4.out];simp
  have hF:Fu s (.slice (some ⟨g,0,none⟩) N cap) (.slice (some ⟨g,0,none⟩) N cap) w w4:=⟨o4,t4,u4,t,fun b hb _ F=>Q b hb (fun e=>F (by rw[e];rfl)),.inl rfl⟩
  refine H.out _ ⟨h.out.row.of_block (Q s lb (Ne.symm hgb)),?_,h.out.lt,Nat.le_trans h.out.le t,h.out.nm' hF,h.out.vars' hF,h.out.names,by rw[d.out];exact hl⟩ hF
  rw[d.out]
  refine⟨by unfold O0;rw[List.length_map,d.out,z0],.inr ⟨g,cap,_,rfl,Y,z.out,P,I,?_,?_⟩⟩
  ·have:=A8r (f.out);simp only[List.size_toArray];rw[this,q.out,z0]
  ·rw[z0];exact o.out
theorem A20 {B d bm:Nat}{b:Nat→Int}{vs:List Vd}{g:List Nat}{sp:Int}{f:Bool}{c:VL}{a:List Int}{w:WD}(h:Wr B d bm b vs g sp f c a w)(n:Nat)(A C:List Int)(x y:Int)(k:a=A++x::y::C)(j:A.length=n)(i:a.length≤1000000)(R:RP)(e:∀w',Wr B d bm b vs g sp f c (A++two a.length++C) w'→Fu d c c w w'→R (.returned (.tuple #[])) w'):Calls Tryz.prog 306 #[.pointer (some ⟨d,0,none⟩),.int .i64 (n:Int)] w R:=by subst j;exact B3T h A C x y k i R e
end Go.Proofs.YtidhiaaicmfabaaGreatDoor
