/- Texts (its parts, joined). -/
import Derived.Test.YtidhiaaicmfabaaGreatDoorProg
import Derived.WalkKit
import Derived.WalkSpells
import Derived.WalkLawsBesides
import Derived.Deep.OwnRows
import Derived.BigQuiet
import Derived.Handy
import Derived.Deep.Light
open Array renaming getElem?_eq_some_iff→z0
namespace Go.Proofs.YtidhiaaicmfabaaGreatDoor
open Go.RowKit Go.Proofs Go.Deep
set_option maxRecDepth 100000
set_option maxHeartbeats 4000000
open Below renaming heap_setCell→z1
open IntWalk renaming wrap64_in→z2
abbrev BA:=ByteArray
abbrev LB:=List ByteArray
abbrev WD:=World
abbrev VL:=Value
abbrev RP:=Ending→World→Prop
theorem A6 {R:RP}{w:WD}{v a:VL}(h:R (.returned v) w)(e:v=a):R (.returned a) w:=e▸h
theorem hd {p:Prop}(h:p):Hid p:=h
theorem A9 {W:WD}{o:Obj}{g:Nat}(h:g=W.heap.size):(W.alloc o).heap[g]? =some o:=h▸heap_alloc_new W o
theorem S4 {w:WD}{b e a:Nat}{v:VL}{n:Nat}{xs:List VL}(h:w.ownsRow b e a v n xs):w.drew.ownsRow b e a v n xs:=h
theorem C3 {P:Program}(D:WD){A:Array Oper}{p:List Oper}{o:Oper}{a:Act}{Q:Exit→Act→WD→Prop}(F:o.guard=none)(s x:Operand)(t:TypeId)(X:o.op=.call { callee:=.builtin .append,args:=#[s,x],argTypes:=#[t,t]})(k:Nat)(e:TypeId)(z:VL)(b f:Nat)(O:P.underlying t=some (.slice e))(q:(P.info? e).map (fun i=>(i.zero,i.size,i.bytes))=some (some z,b,f))(J:z.cells.size=b)(I:0<b)(v:VL)(n:Nat)(xs:List VL)(S:a.eval s=v)(y:D.ownsRow k e b v n xs)(g m c:Nat)(d:List VL)(V:a.eval x=.slice (some ⟨g,0,none⟩) m c)(M:D.heap[g]? =some (.cells d.toArray e))(R:d.length=m*b)(T:∀u∈d,u.oneCell'=true)(H:n+m≤maxLen)(l:(n+m)*f≤140737488355328)(r:k≤D.heap.size)(h:∀E w',w'.ownsRow k e b E (n+m) (xs++d)→D.grownBy w' v.ownBlock→wpList P A Q p (a.put o.dst E) w'):wpList P A Q (o::p) a D:=by obtain⟨i,hi,B⟩:=Option.map_eq_some_iff.1 q;simp only[Prod.mk.injEq] at B;obtain⟨Y,G,K⟩:=B;refine wpList_append_own _ F s x t X k e i z b f O hi Y G K J I v n xs S y ⟨g,0,none⟩ m c d V R ?_ T H l r (fun E w' U N _=>h E w' U N);intro j u L;have C:(⟨g,0,none⟩:Addr).add j=⟨g,j,none⟩:=(by unfold Addr.add;split<;>simp_all);rw[C,cell_of_row _ g j d.toArray e (0,0) M];simpa using L
def osz (op:Nat):Nat:=if op=1 then 5 else if op=2∨op=3∨op=21 then 2 else if op=4∨op=5∨op=17∨op=18∨op=19 then 3 else if 21<op then 0 else 1
def bt (s:BA)(i:Nat):Nat:=if h:i<s.size then s[i].toNat else 0
theorem J4 (s:BA)(i:Nat)(h:i<s.size):s[i].toNat=bt s i:=by simp[bt,h]
theorem N5 (s:BA)(i:Nat):bt s i≤255:=by
 unfold bt;split
 ·rename_i h;have:=s[i].toNat_lt;omega
 ·omega
def U2 (s:BA):Nat→Nat→Option (List Nat)
 |0,_=>none
 |f+1,a=>if a<s.size then (if osz (bt s a)=0∨s.size<a+osz (bt s a) then none else (U2 s f (a+osz (bt s a))).map (a::·)) else some []
def b16 (s:BA)(a:Nat):Nat:=256*bt s a+bt s (a+1)
def b32 (s:BA)(a:Nat):Nat:=256*(256*(256*bt s a+bt s (a+1))+bt s (a+2))+bt s (a+3)
def s32 (s:BA)(a:Nat):Int:=if 2147483648≤b32 s a then (b32 s a:Int)-4294967296 else b32 s a
def Z2 (s:BA)(a:Nat):Nat:=if bt s a=2∨bt s a=3∨bt s a=4∨bt s a=5∨bt s a=21 then bt s (a+1) else 0
def U1 (s:BA)(a:Nat):Int:=
 if bt s a=1 then s32 s (a+1) else if bt s a=17∨bt s a=18∨bt s a=19 then b16 s (a+1) else if bt s a=4∨bt s a=5 then bt s (a+2)
 else if bt s a=2∨bt s a=3∨bt s a=21 then 1 else 0
def doC (s:BA)(a:Nat):List VL:=[.int .i64 a,.int .i64 (bt s a),.int .i64 (Z2 s a),.int .i64 (U1 s a),.int .i64 (-1),.int .i64 (-1)]
theorem A0o (s:BA)(N a k:Nat)(l:List Nat)(h:U2 s N 0=(U2 s (N-l.length) a).map (l++·))(g:l.length<N)(d:a<s.size)(c:osz (bt s a)=k)(i:k≠0)(f:a+k≤s.size):U2 s N 0=(U2 s (N-(l++[a]).length) (a+k)).map ((l++[a])++·):=by rw[h];obtain⟨F,e⟩:∃F,N-l.length=F+1:=⟨N-l.length-1,by omega⟩;have b:N-(l++[a]).length=F:=(by simp;omega);rw[e,b];simp only[U2,d,if_true,c];rw[if_neg (by omega)];cases U2 s F (a+k)<;>simp
theorem A61 (s:BA)(N a:Nat)(l:List Nat)(h:U2 s N 0=(U2 s (N-l.length) a).map (l++·))(e:l.length<N)(c:a<s.size)(b:osz (bt s a)=0∨s.size<a+osz (bt s a)):U2 s N 0=none:=by rw[h];obtain⟨F,d⟩:∃F,N-l.length=F+1:=⟨N-l.length-1,by omega⟩;rw[d];simp only[U2,c,if_true];rw[if_pos b];rfl
theorem B1K (s:BA)(N a:Nat)(l:List Nat)(h:U2 s N 0=(U2 s (N-l.length) a).map (l++·))(d:l.length<N)(b:¬a<s.size):U2 s N 0=some l:=by rw[h];obtain⟨F,c⟩:∃F,N-l.length=F+1:=⟨N-l.length-1,by omega⟩;rw[c];simp[U2,b]
theorem A2q (a b c d e f:Int):∀u∈[Value.int .i64 a,.int .i64 b,.int .i64 c,.int .i64 d,.int .i64 e,.int .i64 f],u.oneCell'=true:=by intro u g;simp only[List.mem_cons,List.not_mem_nil,or_false] at g;rcases g with rfl|rfl|rfl|rfl|rfl|rfl<;>rfl
theorem A1e {w1:WD}{c T:Nat}{d:VL}{s:BA}{l:List Nat}{a:Nat}{b:List VL}(h:w1.ownsRow c T 6 d (l.length+1) (l.flatMap (doC s)++b))(e:b=doC s a):w1.ownsRow c T 6 d (l++[a]).length ((l++[a]).flatMap (doC s)):=by subst e;simpa using h
theorem B2t (s:BA)(a:Nat)(X:Int)(c:bt s a=1)(b:X=s32 s (a+1)):[Value.int .i64 a,.int .i64 (bt s a),.int .i64 0,.int .i64 X,.int .i64 (-1),.int .i64 (-1)]=doC s a:=by subst b;simp[doC,Z2,U1,c]
theorem B1o (s:BA)(a:Nat):b32 s a≤4294967295:=by have d:=N5 s a;have e:=N5 s (a+1);have b:=N5 s (a+2);have c:=N5 s (a+3);unfold b32;omega
theorem A9r (s:BA)(a:Nat):wrap64 (wrap64 (256*wrap64 (wrap64 (256*wrap64 (wrap64 (256*wrap64 (wrap64 ↑(bt s (a+1))))+wrap64 ↑(bt s (a+2))))+wrap64 ↑(bt s (a+3))))+wrap64 ↑(bt s (a+4)))=(b32 s (a+1):Int):=by have d:=N5 s (a+1);have e:=N5 s (a+2);have b:=N5 s (a+3);have c:=N5 s (a+4);unfold b32;simp only[Nat.add_assoc,Nat.reduceAdd];simp (disch:=omega) only[z2];omega
theorem B6n (s:BA)(a:Nat)(E:Int)(b:E=(b32 s a:Int))(h:2147483648≤E):wrap64 (E-4294967296)=s32 s a:=by have:=B1o s a;subst b;unfold s32;rw[if_pos (by omega),z2 _ (by omega)]
theorem B6F (s:BA)(a:Nat)(E:Int)(b:E=(b32 s a:Int))(h:E<2147483648):E=s32 s a:=by subst b;unfold s32;rw[if_neg (by omega)]
section
def R8 (w:WD)(b T sz n cap:Nat)(A:Nat→Nat→VL):Prop:=
 ∃cur:Array VL,w.heap[b]? =some (.cells cur T (0,0))∧cur.size=cap*sz∧n≤cap∧∀i,i<n→∀f,f<sz→cur[i*sz+f]? =some (A i f)
theorem B6s {sz i j f g:Nat}(a:f<sz)(b:g<sz)(h:i*sz+f=j*sz+g):i=j∧f=g:=by have c:(i*sz+f)/sz=i:=(by rw[Nat.mul_comm,Nat.mul_add_div (by omega),Nat.div_eq_of_lt a];omega);have d:(j*sz+g)/sz=j:=(by rw[Nat.mul_comm,Nat.mul_add_div (by omega),Nat.div_eq_of_lt b];omega);have:i=j:=(by rw[←c,←d,h]);subst this;omega
section
variable {w w':WD}{b T sz n cap:Nat}{A A':Nat→Nat→VL}
theorem R8.cell (h:R8 w b T sz n cap A){i f:Nat}(hi:i<n)(a:f<sz):w.cell? ⟨b,i*sz+f,none⟩=some (A i f):=by obtain⟨c,d,_,_,e⟩:=h;simp[World.cell?,d,e i hi f a]
theorem R8.cell0 (h:R8 w b T sz n cap A){i:Nat}(hi:i<n)(a:0<sz):w.cell? ⟨b,i*sz,none⟩=some (A i 0):=h.cell hi a
theorem R8.frozen (h:R8 w b T sz n cap A)(o:Nat):w.frozen? ⟨b,o,none⟩=false:=by obtain⟨c,a,_⟩:=h;simp[World.frozen?,a]
theorem R8.lt (h:R8 w b T sz n cap A):b<w.heap.size:=by obtain⟨c,a,_⟩:=h;exact (z0.1 a).1
theorem R8.congr (h:R8 w b T sz n cap A)(e:∀i,i<n→∀f,f<sz→A i f=A' i f):R8 w b T sz n cap A':=by obtain⟨c,g,j,d,k⟩:=h;exact⟨c,g,j,d,fun i hi f a=>by rw[k i hi f a,e i hi f a]⟩
theorem R8.of_block (h:R8 w b T sz n cap A)(e:w'.heap[b]? =w.heap[b]?):R8 w' b T sz n cap A:=by obtain⟨c,a,r⟩:=h;exact⟨c,e.trans a,r⟩
theorem R8.set (h:R8 w b T sz n cap A)(i f:Nat)(p:f<sz)(v:VL):R8 (w.setCell ⟨b,i*sz+f,none⟩ v) b T sz n cap (fun j g=>if j=i∧g=f then v else A j g):=by
 obtain⟨c,r,s,q,m⟩:=h;refine⟨c.setIfInBounds (i*sz+f) v,?_,by simpa using s,q,fun j l g a=>?_⟩
 ·simp[World.setCell,Array.getElem?_modify,r]
 ·rw[Array.getElem?_setIfInBounds];by_cases e:j=i∧g=f
  ·obtain⟨rfl,rfl⟩:=e;have d:j*sz+g<c.size:=(by have:=m j l g a;exact (z0.1 this).1);simp[d]
  ·have k:¬(i*sz+f=j*sz+g):=fun o=>e (by have:=B6s p a o;exact⟨this.1.symm,this.2.symm⟩);simp only[k,if_false,e];exact m j l g a
theorem R8.setOther (h:R8 w b T sz n cap A){a:Addr}(c:b≠a.block)(v:VL):R8 (w.setCell a v) b T sz n cap A:=h.of_block (z1 _ _ _ _ c)
theorem R8.alloc (h:R8 w b T sz n cap A)(o:Obj):R8 (w.alloc o) b T sz n cap A:=h.of_block (Below.heap_alloc _ _ _ h.lt)
theorem R8.drewN (h:R8 w b T sz n cap A)(k:Nat):R8 (w.drewN k) b T sz n cap A:=h
theorem R8.drew (h:R8 w b T sz n cap A):R8 w.drew b T sz n cap A:=h
end
structure A8 (b:Nat)(w w':WD):Prop where
 os:w'.os=w.os
 tape:w'.tape=w.tape
 output:w'.output=w.output
 size:w.heap.size≤w'.heap.size
 block:∀k,k<w.heap.size→k≠b→w'.heap[k]? =w.heap[k]?
section
variable {b:Nat}{w w' w'':WD}
theorem A8.refl (b:Nat)(w:WD):A8 b w w:=⟨rfl,rfl,rfl,Nat.le_refl _,fun _ _ _=>rfl⟩
theorem A8.trans (h:A8 b w w')(k:A8 b w' w''):A8 b w w'':=
 ⟨k.os.trans h.os,k.tape.trans h.tape,k.output.trans h.output,Nat.le_trans h.size k.size,fun i hi a=>(k.block i (Nat.lt_of_lt_of_le hi h.size) a).trans (h.block i hi a)⟩
theorem A8.of_below (h:Below w.heap.size w w'):A8 b w w':=⟨h.os,h.tape,h.output,h.size,fun k a _=>h.block k a⟩
theorem A8.drewN (h:A8 b w w')(n:Nat):A8 b w (w'.drewN n):=⟨h.os,h.tape,h.output,h.size,h.block⟩
theorem A8.drew (h:A8 b w w'):A8 b w w'.drew:=⟨h.os,h.tape,h.output,h.size,h.block⟩
theorem A8.alloc (h:A8 b w w')(o:Obj):A8 b w (w'.alloc o):=
 h.trans ⟨rfl,rfl,rfl,by simp,fun k a _=>Below.heap_alloc _ _ _ a⟩
theorem A8.setCell (h:A8 b w w'){a:Addr}(e:a.block=b∨w.heap.size≤a.block)(v:VL):A8 b w (w'.setCell a v):=
 ⟨h.os,h.tape,h.output,by have:=h.size;simpa[World.setCell] using this,fun k c d=>by
  rw[z1 _ _ _ _ (by omega)];exact h.block k c d⟩
theorem A8.grown {row:Option Nat}(h:A8 b w w')(a:w'.grownBy w'' row)(f:∀k,row=some k→k=b∨w.heap.size≤k):A8 b w w'':=
 ⟨a.os.trans h.os,a.tape.trans h.tape,a.output.trans h.output,Nat.le_trans h.size a.size,fun k c d=>by
  rw[a.block k (Nat.lt_of_lt_of_le c h.size) (fun e=>by have:=f k e.symm;omega)];exact h.block k c d⟩
theorem A8.cell (h:A8 b w w'){p:Addr}(a:p.block<w.heap.size)(c:p.block≠b):w'.cell? p=w.cell? p:=World.cell?_of_block (w:=w) (h.block p.block a c)
theorem A8.frozen (h:A8 b w w'){p:Addr}(a:p.block<w.heap.size)(c:p.block≠b):w'.frozen? p=w.frozen? p:=World.frozen?_of_block (w:=w) (h.block p.block a c)
theorem A8.below {B:Nat}(h:A8 b w w')(hB:B≤b)(a:B≤w.heap.size):Below B w w':=⟨h.os,h.tape,h.output,h.size,fun k c=>h.block k (by omega) (by omega)⟩
end
theorem H5 {w:WD}{a e:Nat}{v:VL}{n:Nat}{xs:List VL}(h:w.ownsRow a e 1 v n xs):∃c cap,v=.slice c n cap∧n≤cap∧(0<n→∃g,c=some ⟨g,0,none⟩∧a≤g∧g<w.heap.size∧∀j u,xs[j]? =some u→w.cell? ⟨g,j,none⟩=some u):=by
 rcases h.2 with ⟨rfl,rfl⟩|⟨g,cap,cur,rfl,i,f,k,_⟩
 ·exact⟨none,0,rfl,Nat.le_refl _,fun h=>by omega⟩
 ·refine⟨_,cap,rfl,k,fun _=>⟨g,rfl,i,(z0.1 f).1,fun j u d=>?_⟩⟩;have:=h.cells (g:=g) rfl j u d;have b:(⟨g,0,none⟩:Addr).add j=⟨g,j,none⟩:=(by unfold Addr.add;split<;>simp_all);rwa [b] at this
theorem A3W {w:WD}{a T sz:Nat}{v:VL}{n:Nat}{xs:List VL}{A:Nat→Nat→VL}(h:w.ownsRow a T sz v n xs)(p:0<n)(m:∀i,i<n→∀f,f<sz→xs[i*sz+f]? =some (A i f)):∃b cap,v=.slice (some ⟨b,0,none⟩) n cap∧a≤b∧R8 w b T sz n cap A:=by
 rcases h.2 with ⟨rfl,rfl⟩|⟨g,cap,cur,rfl,o,l,j,_,e,c⟩
 ·omega
 ·refine⟨g,cap,rfl,o,cur,l,e,j,fun i hi f k=>?_⟩;have d:=m i hi f k;rw[←c,List.getElem?_take] at d;split at d
  ·simpa using d
  ·cases d
end
def X5 (op:Nat→Nat):Nat→Option (List Nat)
 |0=>some []
 |k+1=>
  match X5 op k with
  |none=>none
  |some st=>
   if op k=19 then (if 10≤st.length then none else some (k::st))
   else if op k=20 then (match st with | []=>none|_::t=>some t)
   else some st
def O8 (op:Nat→Nat)(k:Nat):Int:=
 match X5 op k with
 |some (f::_)=>f
 |_=> -1
theorem A27 (op:Nat→Nat){k n:Nat}(h:X5 op k=none)(a:k≤n):X5 op n=none:=by
 induction n with
 |zero=>
  have:k=0:=(by omega);subst this;exact h
 |succ n ih=>
  by_cases e:k=n+1
  ·subst e;exact h
  ·simp[X5,ih (by omega)]
theorem A6w (op:Nat→Nat):∀(k:Nat) (e:List Nat),X5 op k=some e→∀f∈e,f<k∧op f=19
 |0,e,h,f,b=>by simp[X5] at h;subst h;cases b
 |k+1,e,h,f,b=>by
  simp only[X5] at h;cases g:X5 op k with
  |none=>simp[g] at h
  |some s0=>
   have i:=A6w op k s0 g;simp only[g] at h;by_cases c:op k=19
   ·simp only[c,if_true] at h;split at h
    ·cases h
    ·injection h with h;subst h;rcases List.mem_cons.1 b with rfl|b
     ·exact⟨by omega,c⟩
     ·have:=i f b;exact⟨by omega,this.2⟩
   ·simp only[c,if_false] at h;by_cases d:op k=20
    ·simp only[d,if_true] at h;cases s0 with
     |nil=>cases h
     |cons a t=>
      injection h with h;subst h;have:=i f (List.mem_cons_of_mem _ b);exact⟨by omega,this.2⟩
    ·simp only[d,if_false] at h;injection h with h;subst h;have:=i f b;exact⟨by omega,this.2⟩
theorem A9h (op:Nat→Nat):∀(k:Nat) (d:List Nat),X5 op k=some d→d.length≤10
 |0,d,h=>by simp[X5] at h;subst h;simp
 |k+1,d,h=>by
  simp only[X5] at h;cases e:X5 op k with
  |none=>simp[e] at h
  |some s0=>
   have f:=A9h op k s0 e;simp only[e] at h;by_cases b:op k=19
   ·simp only[b,if_true] at h;split at h
    ·cases h
    ·injection h with h;subst h;simp;omega
   ·simp only[b,if_false] at h;by_cases c:op k=20
    ·simp only[c,if_true] at h;cases s0 with
     |nil=>cases h
     |cons a t=>injection h with h;subst h;simp at f;omega
    ·simp only[c,if_false] at h;injection h with h;subst h;exact f
end Go.Proofs.YtidhiaaicmfabaaGreatDoor
