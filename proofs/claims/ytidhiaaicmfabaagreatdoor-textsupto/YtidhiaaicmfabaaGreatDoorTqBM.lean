/- Texts (its parts, joined). -/
import Derived.Test.YtidhiaaicmfabaaGreatDoorTqBH
import Derived.Test.YtidhiaaicmfabaaGreatDoorTqAV
import Derived.Test.YtidhiaaicmfabaaGreatDoorTqAT
open List renaming setIfInBounds_toArray→z0,set_cons_zero→z2,set_cons_succ→z3,getElem?_eq_getElem→y1,getElem?_eq_none→y5,mem_of_getElem?→y8
open Bool renaming and_eq_true→z1,or_eq_false_iff→z5,and_eq_false_iff→z8,or_eq_true→y2,eq_iff_iff→y3,not_eq_true'→y4,true_and→y6,and_assoc→y7,false_or→y9
open Array renaming getElem?_eq_some_iff→z4
open Nat renaming le_refl→z6,add_zero→y0,zero_le→x6
open Int renaming mul_le_mul_of_nonneg_right→z7
namespace Go.Proofs.YtidhiaaicmfabaaGreatDoor
open Go.RowKit Go.Proofs Go.Deep
set_option maxRecDepth 100000
set_option maxHeartbeats 4000000
open World renaming cell?_of_block→z9
section
def K6 (vs:List Vd)(e:Ex):Int:=if N9 vs e=true∧kE vs e≠3 then kE vs e else -1
def opT (o:Nat)(a b:Int):Int:=
 if opF o=3 then (if a=0∧b=0 then 0 else -1)
 else if opF o=1 then (if (a=0∧b=0)∨(B9 a=true∧B9 b=true) then 0 else -1)
 else if opF o=2 then (if B9 a=true∧B9 b=true then 0 else -1)
 else if B9 a=true∧B9 b=true then max a b else -1
theorem A2a {k:Int}:B9 k=true↔k=1∨k=2:=by simp[B9]
section
variable {vs:List Vd}
theorem A24 {e:Ex}:K6 vs e=0↔N9 vs e=true∧kE vs e=0:=by
 unfold K6;by_cases c:N9 vs e=true∧kE vs e≠3
 ·rw[if_pos c];exact⟨fun h=>⟨c.1,h⟩,fun h=>h.2⟩
 ·rw[if_neg c];exact⟨fun h=>by omega,fun h=>absurd ⟨h.1,by omega⟩ c⟩
theorem A2A {e:Ex}:B9 (K6 vs e)=true↔N9 vs e=true∧B9 (kE vs e)=true:=by
 rw[A2a,A2a];unfold K6;by_cases c:N9 vs e=true∧kE vs e≠3
 ·rw[if_pos c];exact⟨fun h=>⟨c.1,h⟩,fun h=>h.2⟩
 ·rw[if_neg c];exact⟨fun h=>by omega,fun h=>absurd ⟨h.1,by omega⟩ c⟩
theorem B5q {e:Ex}(h:B9 (K6 vs e)=true):K6 vs e=kE vs e:=by
 rw[A2a] at h;unfold K6 at h ⊢;split at h
 ·rename_i c;rw[if_pos c]
 ·omega
theorem B7q (n:Int):K6 vs (.lit n)=if A2m n=true then -1 else if -32768≤n∧n≤32767 then 1 else 2:=by
 unfold K6 A2m;simp only[N9,kE,z1,decide_eq_true_eq,y4,z8,decide_eq_false_iff_not];by_cases h: -32768≤n∧n≤32767
 ·rw[if_pos h,if_pos (by omega),if_neg (by omega)]
 ·rw[if_neg h];by_cases a: -2147483648≤n∧n≤2147483647
  ·rw[if_pos (by omega),if_neg (by omega)]
  ·rw[if_neg (by omega),if_pos (by omega)]
theorem B6R (b:Bool):K6 vs (.tru b)=0:=by unfold K6;simp[N9,kE]
theorem B28 {s:BA}{v:Vd}(h:C1 vs s=some v):K6 vs (.plc s)=if v.kind=3∨v.arr=true then -1 else (v.kind:Int):=by
 unfold K6;simp only[N9,kE,h];by_cases c:v.kind=3
 ·rw[if_neg (by omega),if_pos (.inl c)]
 ·cases v.arr
  ·rw[if_pos ⟨rfl,by omega⟩,if_neg (by simp[c])]
  ·rw[if_neg (by simp),if_pos (.inr rfl)]
theorem B1N {s:BA}{i:Ex}{v:Vd}(h:C1 vs s=some v):K6 vs (.idx s i)=if v.kind=3∨v.arr=false∨B9 (K6 vs i)=false then -1 else (v.kind:Int):=by
 have b:=A2A (vs:=vs) (e:=i);rw[show K6 vs (.idx s i)=if N9 vs (.idx s i)=true∧kE vs (.idx s i)≠3 then kE vs (.idx s i) else -1 from rfl];simp only[N9,kE,h];by_cases c:v.kind=3
 ·rw[if_neg (by omega),if_pos (.inl c)]
 ·cases v.arr
  ·rw[if_neg (by simp),if_pos (.inr (.inl rfl))]
  ·simp only[y6,z1];by_cases a:B9 (K6 vs i)=true
   ·rw[if_pos ⟨b.1 a,by omega⟩,if_neg];rintro (h1|h1|h1)
    ·exact c h1
    ·cases h1
    ·rw[a] at h1;cases h1
   ·rw[if_neg (fun x=>a (b.2 x.1)),if_pos (.inr (.inr (by simpa using a)))]
theorem B6z {e:Ex}:K6 vs (.neg e)=if K6 vs e=0 then 0 else -1:=by
 have a:=A24 (vs:=vs) (e:=e);rw[show K6 vs (.neg e)=if N9 vs (.neg e)=true∧kE vs (.neg e)≠3 then kE vs (.neg e) else -1 from rfl];simp only[N9,kE,z1,beq_iff_eq];by_cases c:K6 vs e=0
 ·rw[if_pos c,if_pos ⟨a.1 c,by omega⟩]
 ·rw[if_neg c,if_neg (fun x=>c (a.2 x.1))]
theorem B6e {e:Ex}:K6 vs (.sho e)=if B9 (K6 vs e)=true then 1 else -1:=by
 have a:=A2A (vs:=vs) (e:=e);rw[show K6 vs (.sho e)=if N9 vs (.sho e)=true∧kE vs (.sho e)≠3 then kE vs (.sho e) else -1 from rfl];simp only[N9,kE,z1];by_cases c:B9 (K6 vs e)=true
 ·rw[if_pos c,if_pos ⟨a.1 c,by omega⟩]
 ·rw[if_neg c,if_neg (fun x=>c (a.2 x.1))]
theorem B5S {t:BA}{a s:Ex}{v:Vd}(h:C1 vs t=some v):K6 vs (.dly t a s)=if v.kind=3∧K6 vs a=0∧B9 (K6 vs s)=true then 0 else -1:=by
 have d:=A24 (vs:=vs) (e:=a);have b:=A2A (vs:=vs) (e:=s);rw[show K6 vs (.dly t a s)=if N9 vs (.dly t a s)=true∧kE vs (.dly t a s)≠3 then kE vs (.dly t a s) else -1 from rfl];simp only[N9,kE,h,z1,beq_iff_eq];by_cases c:v.kind=3∧K6 vs a=0∧B9 (K6 vs s)=true
 ·have g:=d.1 c.2.1;have f:=b.1 c.2.2;rw[if_pos c,if_pos ⟨⟨⟨⟨⟨c.1,g.1⟩,g.2⟩,f.1⟩,f.2⟩,by omega⟩]
 ·rw[if_neg c,if_neg];rintro⟨⟨⟨⟨⟨x1,x2⟩,x3⟩,x4⟩,x5⟩,_⟩;exact c ⟨x1,d.2 ⟨x2,x3⟩,b.2 ⟨x4,x5⟩⟩
theorem B6d {o:Nat}{l r:Ex}(i:o<9):K6 vs (.bin o l r)=opT o (K6 vs l) (K6 vs r):=by
 have f:=A24 (vs:=vs) (e:=l);have g:=A24 (vs:=vs) (e:=r);have d:=A2A (vs:=vs) (e:=l);have b:=A2A (vs:=vs) (e:=r);have m:=B5q (vs:=vs) (e:=l);have n:=B5q (vs:=vs) (e:=r);rw[show K6 vs (.bin o l r)=if N9 vs (.bin o l r)=true∧kE vs (.bin o l r)≠3 then kE vs (.bin o l r) else -1 from rfl];unfold opT;simp only[N9,kE,z1,decide_eq_true_eq];have h:opF o=0∨opF o=1∨opF o=2∨opF o=3:=(by unfold opF;split<;>simp);rcases h with h|h|h|h<;>simp only[h]
 ·simp only[z1,true_or,if_true,show ¬((0:Nat)=3) by omega,show ¬((0:Nat)=1) by omega,show ¬((0:Nat)=2) by omega,if_false];by_cases c:B9 (K6 vs l)=true∧B9 (K6 vs r)=true
  ·have k:=d.1 c.1;have j:=b.1 c.2;have q:=A2a.1 k.2;have p:=A2a.1 j.2;rw[if_pos c,m c.1,n c.2,if_pos ⟨⟨⟨⟨k.1,j.1⟩,i⟩,k.2,j.2⟩,by omega⟩]
  ·rw[if_neg c,if_neg];rintro⟨⟨⟨⟨x1,x2⟩,x3⟩,a,x5⟩,_⟩;exact c ⟨d.2 ⟨x1,a⟩,b.2 ⟨x2,x5⟩⟩
 ·simp only[show ¬((1:Nat)=3) by omega,show ¬((1:Nat)=0) by omega,show ¬((1:Nat)=2) by omega,if_false,or_self,if_true,y2,z1,beq_iff_eq];by_cases c:(K6 vs l=0∧K6 vs r=0)∨(B9 (K6 vs l)=true∧B9 (K6 vs r)=true)
  ·rw[if_pos c,if_pos];rcases c with c|c
   ·exact⟨⟨⟨⟨(f.1 c.1).1,(g.1 c.2).1⟩,i⟩,.inr ⟨(f.1 c.1).2,(g.1 c.2).2⟩⟩,by omega⟩
   ·exact⟨⟨⟨⟨(d.1 c.1).1,(b.1 c.2).1⟩,i⟩,.inl ⟨(d.1 c.1).2,(b.1 c.2).2⟩⟩,by omega⟩
  ·rw[if_neg c,if_neg];rintro⟨⟨⟨⟨x1,x2⟩,x3⟩,a⟩,_⟩;rcases a with a|a
   ·exact c (.inr ⟨d.2 ⟨x1,a.1⟩,b.2 ⟨x2,a.2⟩⟩)
   ·exact c (.inl ⟨f.2 ⟨x1,a.1⟩,g.2 ⟨x2,a.2⟩⟩)
 ·simp only[show ¬((2:Nat)=3) by omega,show ¬((2:Nat)=0) by omega,show ¬((2:Nat)=1) by omega,if_false,or_true,if_true,z1];by_cases c:B9 (K6 vs l)=true∧B9 (K6 vs r)=true
  ·rw[if_pos c,if_pos ⟨⟨⟨⟨(d.1 c.1).1,(b.1 c.2).1⟩,i⟩,(d.1 c.1).2,(b.1 c.2).2⟩,by omega⟩]
  ·rw[if_neg c,if_neg];rintro⟨⟨⟨⟨x1,x2⟩,x3⟩,a,x5⟩,_⟩;exact c ⟨d.2 ⟨x1,a⟩,b.2 ⟨x2,x5⟩⟩
 ·simp only[show ¬((3:Nat)=0) by omega,show ¬((3:Nat)=1) by omega,show ¬((3:Nat)=2) by omega,if_false,or_self,if_true,z1,beq_iff_eq];by_cases c:K6 vs l=0∧K6 vs r=0
  ·rw[if_pos c,if_pos ⟨⟨⟨⟨(f.1 c.1).1,(g.1 c.2).1⟩,i⟩,(f.1 c.1).2,(g.1 c.2).2⟩,by omega⟩]
  ·rw[if_neg c,if_neg];rintro⟨⟨⟨⟨x1,x2⟩,x3⟩,a,x5⟩,_⟩;exact c ⟨f.2 ⟨x1,a⟩,g.2 ⟨x2,x5⟩⟩
end
mutual
def wtS (vs:List Vd)(ls:LB):Q3→Bool
 |.set s e=>A5B vs ls s e
 |.setx s i e=>A3t vs ls s i e
 |.ife c t o=>N9 vs c&&kE vs c==0&&Q9 vs ls t&&Q9 vs ls o
 |.cas e ws o=>N9 vs e&&B9 (kE vs e)&&wtW vs ls ws&&Q9 vs ls o
 |.loop s f l b=>(match C1 vs s with|some v=>decide (v.role=2)&&(decide (v.kind=1)&&inI f&&inI l||decide (v.kind=2)&&inD f&&inD l) && !v.arr && !(ls.any (fun x=>decide (s=x)))|none=>false)&&Q9 vs (ls++[s]) b
def Q9 (vs:List Vd)(ls:LB):Sl→Bool
 |.nil=>true
 |.cons h t=>wtS vs ls h&&Q9 vs ls t
def wtW (vs:List Vd)(ls:LB):Wl→Bool
 |.nil=>true
 |.cons ns b t=>ns.all inD&&Q9 vs ls b&&wtW vs ls t
end
def setT (t a:Int)(b:Bool)(c:Nat):Bool:= !(decide (t= -1)||decide (a= -1)||b||decide (c=0))&&(decide (t=a)||(decide (t=2)&&decide (a=1)))
theorem B8L {vs:List Vd}{ls:LB}{s:BA}{e:Ex}{v:Vd}(h:C1 vs s=some v):setT (K6 vs (.plc s)) (K6 vs e) (ls.any (fun x=>decide (s=x))) v.role=A5B vs ls s e:=by
 have a:∀(A:Bool),(setT (K6 vs (.plc s)) (K6 vs e) A v.role=true↔(!v.arr&&N9 vs e&&(decide (kE vs e=(v.kind:Int))||(decide (kE vs e=1)&&decide (v.kind=2)))&&decide (v.kind≠3)&&decide (v.role≠0) && !A)=true):=fun A=>by rw[B28 h];unfold setT K6;simp only[z1,y4,z5,y2,decide_eq_true_eq,decide_eq_false_iff_not];cases b:N9 vs e<;>cases c:v.arr<;>cases A<;>simp<;>(try split)<;>omega
 unfold A5B;rw[h];have:=a (ls.any (fun x=>decide (s=x)));exact y3.2 this
theorem B5T {vs:List Vd}{ls:LB}{s:BA}{i e:Ex}{v:Vd}(h:C1 vs s=some v):setT (K6 vs (.idx s i)) (K6 vs e) (ls.any (fun x=>decide (s=x))) v.role=A3t vs ls s i e:=by
 have b:=A2A (vs:=vs) (e:=i);have a:∀(A:Bool),(setT (K6 vs (.idx s i)) (K6 vs e) A v.role=true↔(v.arr&&N9 vs i&&B9 (kE vs i)&&N9 vs e&&(decide (kE vs e=(v.kind:Int))||(decide (kE vs e=1)&&decide (v.kind=2)))&&decide (v.kind≠3)&&decide (v.role≠0) && !A)=true):=fun A=>by rw[B1N h];have c:(N9 vs i&&B9 (kE vs i))=B9 (K6 vs i):=(by rw[y3,z1];exact b.symm);rw[show (v.arr&&N9 vs i&&B9 (kE vs i))=(v.arr&&(N9 vs i&&B9 (kE vs i))) from y7 _ _ _,c];generalize B9 (K6 vs i)=B;unfold setT K6;simp only[z1,y4,z5,y2,decide_eq_true_eq,decide_eq_false_iff_not];cases d:N9 vs e<;>cases f:v.arr<;>cases A<;>cases B<;>simp<;>(try split)<;>omega
 unfold A3t;rw[h];have:=a (ls.any (fun x=>decide (s=x)));exact y3.2 this
theorem A4L {F a b:Int}:max (min a F) (min b F)=min (max a b) F:=by omega
theorem A5M {F t c:Int}(f:0≤F)(d:0≤t)(g:0≤c):min (1+t*(1+min c F)) F=min (1+t*(1+c)) F:=by
 by_cases h:c≤F
 ·rw[show min c F=c by omega]
 ·rw[show min c F=F by omega];by_cases a:t=0
  ·subst a;simp
  ·have b:1*(1+F)≤t*(1+F):=z7 (by omega) (by omega);have e:1*(1+c)≤t*(1+c):=z7 (by omega) (by omega);omega
theorem B2N {F t c:Int}(a:0≤c):min (if 0<t∧F/(1+c)<t then F else 1+t*(1+c)) F=min (1+t*(1+c)) F:=by
 by_cases h:0<t∧F/(1+c)<t
 ·rw[if_pos h];have b:F<(F/(1+c)+1)*(1+c):=(by have:=Int.lt_ediv_add_one_mul_self F (show 0<1+c by omega);exact this);have d:(F/(1+c)+1)*(1+c)≤t*(1+c):=z7 (by omega) (by omega);omega
 ·rw[if_neg h]
mutual
theorem A2L:∀s:Q3,1≤cS s
 |.set _ e=>by have:=B5 e;simp only[cS];omega
 |.setx _ i e=>by have:=B5 e;have:=B5 i;simp only[cS];omega
 |.ife c t o=>by have:=B5 c;have:=G2 t;simp only[cS];omega
 |.cas e ws o=>by have:=B5 e;have:=A2I ws;have:=A2G ws (C0 o);have:=G2 o;simp only[cS];omega
 |.loop _ f l b=>by
  have:=G2 b;have:0≤max 0 (l-f+1)*(1+C0 b):=Int.mul_nonneg (by omega) (by omega);simp only[cS];omega
theorem G2:∀l:Sl,0≤C0 l
 |.nil=>by simp[C0]
 |.cons h t=>by have:=A2L h;have:=G2 t;simp only[C0];omega
theorem A2I:∀l:Wl,0≤cN l
 |.nil=>by simp[cN]
 |.cons ns b t=>by have:=A2I t;simp only[cN];omega
theorem A2G:∀(l:Wl) (m:Int),m≤cW l m
 |.nil,m=>by simp[cW]
 |.cons ns b t,m=>by have:=A2G t (max m (C0 b));simp only[cW];omega
end
end
section
theorem A0g (s:BA)(i j:Nat):bt (s.extract i s.size) j=bt s (i+j):=by
 unfold bt;have a:(s.extract i s.size).size=s.size-i:=(by rw[ByteArray.size_extract];omega);by_cases h:i+j<s.size
 ·rw[dif_pos (by omega),dif_pos h];simp[ByteArray.getElem_eq_getElem_data,ByteArray.data_extract]
 ·rw[dif_neg (by omega),dif_neg h]
theorem A3y {f:Nat→Bool}{s:BA}{i:Nat}:∀(k j:Nat),i≤s.size→U7 f s k (i+j)=i+U7 f (s.extract i s.size) k j
 |0,j,_=>rfl
 |k+1,j,h=>by
  have b:(s.extract i s.size).size=s.size-i:=(by rw[ByteArray.size_extract];omega);simp only[U7,A0g,b];have a:=A3y (f:=f) k (j+1) h;by_cases c:i+j<s.size∧f (bt s (i+j))=true
  ·rw[if_pos c,if_pos ⟨by omega,c.2⟩,←a];rfl
  ·rw[if_neg c,if_neg (fun c'=>c ⟨by omega,c'.2⟩)]
theorem B9y {c:Nat}(h:I3 c=true):A0e c=false:=by simp only[I3,A0e,y2,z1,decide_eq_true_eq,z5,beq_eq_false_iff_ne] at*;omega
theorem B83 {c:Nat}(h:I4 c=true):A0e c=false:=by simp only[I4,A0e,z1,decide_eq_true_eq,z5,beq_eq_false_iff_ne] at*;omega
theorem A9G {c:Nat}(h:I4 c=true):I3 c=false:=by simp only[I4,I3,z1,decide_eq_true_eq,z5,z8,decide_eq_false_iff_not] at*;omega
theorem B9g {c:Nat}(h:I3 c=true):Z3 c=true:=by simp[Z3,h]
def A3H (c:Nat):Bool:=c==58||c==59||c==44||c==91||c==93||c==40||c==41||c==43||c==45||c==42||c==47||c==61||c==60
theorem B9E:∀c,c<256→A7l c=A3H c:=by have h:((List.range 256).all fun c=>A7l c==A3H c)=true:=(by decide+kernel);intro c a;have:=List.all_eq_true.1 h c (List.mem_range.2 a);simpa using this
section
variable {s:BA}{i:Nat}
theorem A2K (h:i≤s.size):(s.extract i s.size).size=s.size-i:=by rw[ByteArray.size_extract];omega
theorem B8O (h:A0e (bt s i)=true):flV (s.extract i s.size)=1:=by unfold flV;rw[A0g];simp[h]
theorem B9w (hi:i<s.size)(h:I3 (bt s i)=true):i+flV (s.extract i s.size)=U7 Z3 s (s.size-(i+1)) (i+1):=by unfold flV;rw[A0g,y0,B9y h,if_neg (by simp),if_pos h,←A22 hi (B9g h),A2K (by omega)];exact (A3y (s.size-i) 0 (by omega)).symm
theorem B8B (hi:i<s.size)(h:I4 (bt s i)=true):i+flV (s.extract i s.size)=U7 I4 s (s.size-(i+1)) (i+1):=by unfold flV;rw[A0g,y0,B83 h,if_neg (by simp),A9G h,if_neg (by simp),if_pos h,←A22 hi h,A2K (by omega)];exact (A3y (s.size-i) 0 (by omega)).symm
theorem B9C (t:BA)(h:2≤t.size):(t.extract 0 2).toList=[UInt8.ofNat (bt t 0),UInt8.ofNat (bt t 1)]:=by
 rw[ByteArray.toList_eq];have a:(t.extract 0 2).data.toList.length=2:=(by have:(t.extract 0 2).size=2:=(by rw[ByteArray.size_extract];omega);simpa using this);apply List.ext_getElem?;intro j;by_cases c:j<2
 ·have b:t.data.size=t.size:=rfl;have:j=0∨j=1:=(by omega);rcases this with rfl|rfl
  ·unfold bt;rw[dif_pos (by omega),y1 (by omega)];simp[ByteArray.getElem_eq_getElem_data,ByteArray.data_extract]
  ·unfold bt;rw[dif_pos (by omega),dif_pos (by omega),y1 (by omega)];simp[ByteArray.getElem_eq_getElem_data,ByteArray.data_extract]
 ·rw[y5 (by omega),y5 (by simp;omega)]
theorem B49 {a:Nat}(h:a≤255)(b:Nat)(c:b≤255)(e:UInt8.ofNat a=UInt8.ofNat b):a=b:=by have:=congrArg UInt8.toNat e;simp only[UInt8.toNat_ofNat'] at this;omega
theorem B3C (hi:i<s.size):hpV (s.extract i s.size) A1j=(decide (i+1<s.size)&&(bt s i==58)&&(bt s (i+1)==61)):=by
 unfold hpV;rw[A2K (by omega)];by_cases h:i+1<s.size
 ·rw[show A1j.size=2 from rfl,decide_eq_true (show 2≤s.size-i by omega),decide_eq_true h,B9C _ (by rw[A2K (by omega)];omega),A0g,A0g,y6,y6,y0];have c:=N5 s i;have d:=N5 s (i+1);rw[show A1j.toList=[UInt8.ofNat 58,UInt8.ofNat 61] by rw[ByteArray.toList_eq];rfl];by_cases a:bt s i=58
  ·by_cases b:bt s (i+1)=61
   ·rw[a,b];rfl
   ·rw[beq_eq_false_iff_ne.2 b,Bool.and_false,beq_eq_false_iff_ne];intro e;injection e with _ e;injection e with e;exact b (B49 d 61 (by omega) e)
  ·rw[beq_eq_false_iff_ne.2 a,Bool.false_and,beq_eq_false_iff_ne];intro e;injection e with e;exact a (B49 c 58 (by omega) e)
 ·rw[show A1j.size=2 from rfl,decide_eq_false (show ¬2≤s.size-i by omega),decide_eq_false h];rfl
theorem B9o (hi:i<s.size)(c:A0e (bt s i)=false)(a:I3 (bt s i)=false)(b:I4 (bt s i)=false):flV (s.extract i s.size)=if i+1<s.size∧bt s i=58∧bt s (i+1)=61 then 2 else if A3H (bt s i) then 1 else 0:=by unfold flV;rw[A0g,y0,c,a,b,B3C hi,B9E _ (by have:=N5 s i;omega)];simp only[z1,decide_eq_true_eq,beq_iff_eq,and_assoc,Bool.false_eq_true,if_false]
theorem B9z {f:Nat}(hi:i<s.size)(h:A0e (bt s i)=true):spF (f+1) (s.extract i s.size)=spF f (s.extract (i+1) s.size):=by have a:=A2K (s:=s) (i:=i) (by omega);simp only[spF];rw[if_neg (by omega),B8O h,if_neg (by omega),A0g,y0,h];simp only[if_true,Option.map_id',ByteArray.extract_extract,a,show min (i+(s.size-i)) s.size=s.size by omega]
theorem A9o {f e:Nat}(hi:i<s.size)(h:A0e (bt s i)=false)(b:i+flV (s.extract i s.size)=e)(a:i<e):e≤s.size∧spF (f+1) (s.extract i s.size)=(spF f (s.extract e s.size)).map (fun r=>s.extract i e::r):=by have c:=A2K (s:=s) (i:=i) (by omega);have d:=A6f (s:=s.extract i s.size) (by omega);refine⟨by omega,?_⟩;simp only[spF];rw[if_neg (by omega),if_neg (by omega),A0g,y0,h,ByteArray.extract_extract,c,ByteArray.extract_extract,show min (i+(s.size-i)) s.size=s.size by omega,b,y0,show min e s.size=e by omega];rfl
theorem B9a {f:Nat}(hi:i<s.size)(h:flV (s.extract i s.size)=0):spF (f+1) (s.extract i s.size)=none:=by have a:=A2K (s:=s) (i:=i) (by omega);simp only[spF];rw[if_neg (by omega),if_pos h]
theorem B7u {f:Nat}(hi:¬i<s.size):spF f (s.extract i s.size)=some []:=by
 have a:(s.extract i s.size).size=0:=(by rw[ByteArray.size_extract];omega);cases f with
 |zero=>rfl
 |succ f=>simp only[spF];rw[if_pos a]
end
theorem A0r (c j:Nat):((c:Int)==(j:Int))=decide (c=j):=by rw[A1h];by_cases h:c=j<;>simp[h]
def A81 (c:Nat):Bool:=decide (65≤c)&&decide (c≤90)
def smF (s:BA):Nat→Bool
 |0=>true
 |k+1=>smF s k && !A81 (bt s k)
theorem A6q {s:BA}:∀{k:Nat},smF s k=true↔∀j,j<k→A81 (bt s j)=false
 |0=>by simp[smF]
 |k+1=>by
  simp only[smF,z1,y4,A6q (k:=k)];constructor
  ·intro h j a;by_cases c:j=k
   ·rw[c];exact h.2
   ·exact h.1 j (by omega)
  ·intro h;exact⟨fun j a=>h j (by omega),h k (by omega)⟩
def w27:LB:=[wIN,A5X,A8h,P2,K5,A1E,A4l,A1b,N8,R3,wOF,wIF,A1B,A1A,J5,A1D,X3,wTO,wDO,V5,Q0,A1K,R4,A3u,P6 4,P6 7,P6 8]
def wkV (s:BA):Nat:=if smF s s.size=true∧s.size≤12 then 110 else if amB s w27 then 119 else 0
theorem B58 {s:BA}:(s.toList==(⟨(Lib.toLowerA s.data.toList).toArray⟩:BA).toList)=smF s s.size:=by
 rw[ByteArray.toList_eq,ByteArray.toList_eq];have d:(s.data.toList=Lib.toLowerA s.data.toList)↔smF s s.size=true:=by
  constructor
  ·intro h;rw[A6q];intro j a;obtain⟨b,f,g⟩:=A1s s j a;have:=A5l h.symm b (y8 f);rw[g];simp only[A81,z8,decide_eq_false_iff_not];omega
  ·intro h;rw[A6q] at h;unfold Lib.toLowerA;apply List.ext_getElem?;intro j;rw[List.getElem?_map];by_cases a:j<s.size
   ·obtain⟨b,f,g⟩:=A1s s j a;have i:=h j a;rw[g] at i;rw[f];simp only[Option.map_some,Option.some.injEq];unfold Lib.lowerB;rw[if_neg];unfold Lib.isUpperB;simp only[A81,z8,decide_eq_false_iff_not] at i;simp only[z1,decide_eq_true_eq,UInt8.le_iff_toNat_le];intro c;have k:(65:UInt8).toNat=65:=rfl;have l:(90:UInt8).toNat=90:=rfl;omega
   ·rw[y5 (by simpa using a)];rfl
 cases e:smF s s.size with
 |true=>simpa using d.2 e
 |false=>
  have:¬(s.data.toList=Lib.toLowerA s.data.toList):=fun h=>by rw[d.1 h] at e;cases e
  simpa using this
theorem B9r {s:BA}(b:0<s.size)(a:I3 (bt s 0)=true):O7 s=true↔smF s s.size=true∧s.size≤12:=by unfold O7;rw[B58,decide_eq_true b,a];simp only[y6,Bool.and_true,z1,decide_eq_true_eq];exact and_comm
theorem B31 {s:BA}(k:0<s.size)(b:I3 (bt s 0)=true):(wkV s≠0→K7 s=wkV s)∧(wkV s=0→A3Q s=false):=by
 have j:=B9r k b;have i:Y8 s=false:=by
  unfold Y8;cases e:I4 (bt s 0) with
  |false=>simp
  |true=>rw[A9G e] at b;cases b
 unfold wkV;by_cases c:smF s s.size=true∧s.size≤12
 ·rw[if_pos c];refine⟨fun _=>?_,fun e=>by cases e⟩;unfold K7;rw[if_neg (by omega),if_pos (j.2 c)]
 ·rw[if_neg c];have a:O7 s=false:=by
   cases e:O7 s with
   |false=>rfl
   |true=>exact absurd (j.1 e) c
  by_cases g:amB s w27=true
  ·rw[if_pos g];refine⟨fun _=>?_,fun e=>by cases e⟩;unfold K7;rw[if_neg (by omega),a,i,b];rfl
  ·rw[if_neg g];refine⟨fun e=>absurd rfl e,fun _=>?_⟩;unfold A3Q;rw[a,i,y9,y9];cases e:I8.any (fun x=>B6 s x) with
   |false=>rfl
   |true=>
    exfalso;obtain⟨x,l,h⟩:=List.any_eq_true.1 e;have f:s=x:=(by unfold B6 at h;rw[beq_iff_eq,ByteArray.toList_eq,ByteArray.toList_eq] at h;apply ByteArray.ext;exact Array.toList_inj.1 h);subst f;have:(I8.all fun x=> !(I3 (bt x 0))||amB x w27)=true:=(by decide+kernel);have d:=List.all_eq_true.1 this s l;rw[b] at d;simp only[Bool.not_true,y9] at d;exact g d
theorem B7J {s:BA}(b:0<s.size)(a:I4 (bt s 0)=true):K7 s=100:=by unfold K7 O7 Y8;rw[if_neg (by omega),a,A9G a];simp[Nat.ne_of_gt b]
theorem B7h:K7 A1j=115:=by decide+kernel
theorem B9q {s:BA}(c:0<s.size)(a:I3 (bt s 0)=false)(b:I4 (bt s 0)=false):K7 s=115:=by unfold K7 O7 Y8;rw[if_neg (by omega),a,b];simp
end
section
theorem A1r (w:WD){lv:VL}{ls:LB}(h:w.ownsRow 0 9 1 lv ls.length (N6 ls))(s:BA)(t:ls.length≤1000)(R:RP)(a:R (.returned (.bool (ls.any (fun x=>decide (s=x))))) w):Calls Tryz.prog 313 #[lv,.string s] w R:=by
 obtain⟨A,z,rfl,B,n⟩:=H5 h;replace a:=hd a;replace n:=hd n;go_enter Tryz.func313,Tryz.ntmps313;go_wp2_with (fail);go_enter Tryz.func314,Tryz.ntmps314;go_wp2;go_loopw [5,8] (fun _ m wr=>∃i:Nat,i≤ls.length∧m=.int .i64 (i:Int)∧(∀x∈ls.take i,s≠x)∧wr=w) (fun _ m _=>ls.length-(intOf m).toNat);case atStart=>exact⟨0,x6 _,rfl,fun x d=>by simp at d,rfl⟩
 case round=>
  obtain⟨i,hi,rfl,b,rfl⟩:=hrel;by_cases l:i<ls.length
  ·have q:decide ((i:Int)<(ls.length:Int))=true:=(by simp;omega);obtain⟨x,d⟩:∃x,ls[i]? =some x:=⟨_,y1 l⟩;obtain⟨g,rfl,_,o,k⟩:=n.out (by omega);have u:wr.cell? ⟨g,i,none⟩=some (.string x):=k i _ (by unfold N6;rw[List.getElem?_map,d];rfl);have r:(0:Int)≤(i:Int)∧(i:Int)<(ls.length:Int):=(by omega);by_cases e:s=x
   ·have p:(s.toList==x.toList)=true:=(by rw[e];exact beq_self_eq_true _);have j:ls.any (fun x=>decide (s=x))=true:=List.any_eq_true.2 ⟨x,y8 d,by simpa using e⟩;rw[j] at a;have v:decide ((i:Int)≥0)=true:=(by simp);clear k h b j e d;go_wp2;exact A6 a.out rfl
   ·have p:=B5H e;have c:∀y∈ls.take (i+1),s≠y:=fun y f=>by
     rw[X9 d,List.mem_append,List.mem_singleton] at f;rcases f with f|rfl
     ·exact b y f
     ·exact e
    replace c:=hd c;clear k h b e d;go_wp2;exact⟨⟨i+1,by omega,by go_num,c.out,by first|rfl|trivial⟩,by simp[intOf];omega⟩
  ·have q:decide ((i:Int)<(ls.length:Int))=false:=(by simp;omega);have j:ls.any (fun x=>decide (s=x))=false:=(by rw[List.take_of_length_le (by omega)] at b;exact List.any_eq_false.2 (fun x d=>by simpa using b x d));rw[j] at a;go_wp2;exact A6 a.out rfl
section
variable {P:Program}{ops:Array Oper}{Q:Exit→Act→WD→Prop}{md:Region.Mode}{S:WD→Prop}
theorem J8 (i d:Nat){f:Oper}{v:VL}{fuel:Nat}{b:Array Bool}{a:Act}{w:WD}(hi:ops[i]? =some f)(e:f.dst=some d)(m:Region.noSelect ops=true)(j:Region.free md ops b i=true)(l:(Region.ready md ops b).contains i=true)(n:∀c a w,Q (.panic c) (a.put (some d) v) w→Q (.panic c) a w)(g:YieldsIf P ops S f v a)(k:S w)(h:wpAnyH P md ops Q S fuel (b.setIfInBounds i true) (a.put (some d) v) w):wpAnyH P md ops Q S (fuel+1) b a w:=
 wpAnyH_take hi m j l (by rw[e];exact n) g k (by rw[e];exact h)
end
theorem xw5 {x r a c c' k n:Bool}(h:a=true→c=c'):(x || !r || !a || !c || !k || !n)=(x || !(r&&a&&c' && k&&n)):=by
 cases a with
 |false=>simp
 |true=>rw[h rfl];cases x<;>cases r<;>cases c'<;>cases k<;>cases n<;>rfl
def setC (k:Int)(v:Vd):Bool:=k==(v.kind:Int)||(k==1&&(v.kind:Int)==2)
def B0W (v:Vd):Bool:=((v.kind:Int) !=3)&&((v.role:Int) !=0)
theorem A4k {vs:List Vd}{ls:LB}{s:BA}{e:Ex}{v:Vd}(he:S2 vs e)(hv:C1 vs s=some v)(hk3:v.kind≤3)(hls:ls.length≤1000){bc bm lo m hi U:Nat}{H:Nat→Int}{bs:List Nat}{lv Q pv:VL}{x:Bool}{w:WD}(hlm:lo≤m)(hmh:m≤hi)(r:hi≤bc)(h:G5 bc bm H vs bs lv ls x w)(hxe:E9 (fun _=>0) e m hi w (.iface U Q))(ra ga:Bool)(ie:Ex)(hP:∀W:WD,G5 bc bm H vs bs lv ls x W→Below w.heap.size w W→∀R:RP,(∀w',G5 bc bm H vs bs lv ls (x || !ra) w'→Kc bc lo m lv lv W w'→(ga=true→E9 (kE vs) ie lo m w' pv)→R (.returned (.int .u8 (v.kind:Int))) w')→Calls Tryz.prog 308 #[.agg #[.string s,pv],.pointer (some ⟨bc,0,none⟩)] W R)(R:RP)(D:∀w',G5 bc bm H vs bs lv ls (x || !(ra&&N9 vs e&&setC (kE vs e) v&&B0W v && !(ls.any (fun y=>decide (s=y))))) w'→Kc bc lo hi lv lv w w'→(ga=true→E9 (kE vs) ie lo m w' pv)→(N9 vs e=true→E9 (kE vs) e m hi w' (.iface U Q))→R (.returned (.tuple #[])) w'):Calls Tryz.prog 310 #[.agg #[.string s,pv,.iface U Q],.pointer (some ⟨bc,0,none⟩)] w R:=by
 obtain⟨Z,eZ⟩:∃Z,Z=w.alloc (Obj.cells #[.string s,pv,.iface U Q] 309):=⟨_,rfl⟩;have aa:Below w.heap.size w Z:=(by rw[eZ];exact (Below.refl _ w).alloc (z6 _) _);have hE:=(h.below aa).drew;have f:Z.heap[w.heap.size]? =some (.cells #[.string s,pv,.iface U Q] 309):=(by rw[eZ];exact A2);have q0:Z.cell? ⟨w.heap.size,0,none⟩=some (.string s):=A1 (i:=0) f rfl;have q1:Z.cell? ⟨w.heap.size,1,none⟩=some pv:=A1 (i:=1) f rfl;have q2:Z.cell? ⟨w.heap.size,2,none⟩=some (.iface U Q):=A1 (i:=2) f rfl;have B:w.heap.size≠bc:=(h.below aa).ne f (by decide);have lz:w.heap.size<Z.heap.size:=(z4.1 f).1;have me:=R1 hxe;have me1:=me.m;have me2:=me.c;have V:Below w.heap.size w Z.drew:=below_drewN aa 1;have cP:=hd (hP Z.drew hE V);have cE:=hd (fun (W:WD) (x:Bool)=>@he bc bm m hi U H bs lv Q ls x W r);have E:=hxe.kf (lo:=0) (hi:=0) (Kf.of_below V) (.inl (x6 _));have F:∀X:WD,Kc bc lo m lv lv Z.drew X→X.heap[w.heap.size]? =Z.heap[w.heap.size]? :=fun X k=>k.tagX hE f (by decide) (by decide) (by decide);have J:∀(X Y:WD) (y:Bool),G5 bc bm H vs bs lv ls y X→Kc bc lo m lv lv Z.drew X→Kc bc m hi lv lv X Y→Y.heap[w.heap.size]? =Z.heap[w.heap.size]? :=fun X Y y e k k'=>(k'.tagX e ((F X k).trans f) (by decide) (by decide) (by decide)).trans (F X k);have q:∀X:WD,X.heap[w.heap.size]? =Z.heap[w.heap.size]? →X.cell? ⟨w.heap.size,0,none⟩=some (.string s)∧X.cell? ⟨w.heap.size,1,none⟩=some pv∧X.cell? ⟨w.heap.size,2,none⟩=some (.iface U Q):=fun X hX=>by rw[z9 (w:=Z) (a:=⟨w.heap.size,0,none⟩) hX,z9 (w:=Z) (a:=⟨w.heap.size,1,none⟩) hX,z9 (w:=Z) (a:=⟨w.heap.size,2,none⟩) hX];exact⟨q0,q1,q2⟩
 have hBk:=hd (Kc.below (bc:=bc) (lo:=lo) (hi:=hi) (u:=lv) V);generalize kfn e=FE at*;replace D:=hd D;replace h:=hd h;replace hE:=hd hE;replace E:=hd E;replace f:=hd f;replace F:=hd F;replace J:=hd J;replace q:=hd q;clear hxe he hP me aa V;go_enter Tryz.func310,Tryz.ntmps310;go_wp2_with (fail);rw[←eZ];replace eZ:=hd eZ;generalize w.heap.size=z at*;go_region_held3 (fun w'=>w'.cell? ⟨z,0,none⟩=some (.string s)∧w'.cell? ⟨z,1,none⟩=some pv∧w'.cell? ⟨z,2,none⟩=some (.iface U Q)) (first|exact q.out _ (F.out _ k1.out)|exact q.out _ (J.out _ _ _ e1.out k1.out k2.out)|go_keep)
  (first
   |(go_at_call 308;refine cP.out _ ?_;intro w1 e1 k1 g1;replace e1:=hd e1;replace k1:=hd k1;replace g1:=hd g1)
   |(refine cE.out _ _ (by exact e1.out) (by exact k1.out.ex hE.out E.out (.inl (z6 _)) r) _ ?_;intro w2 kk e2 k2 hk;replace e2:=hd e2;replace k2:=hd k2;replace hk:=hd hk))
 have hz2:=J.out _ _ _ e1.out k1.out k2.out;have g2:=fun l=>k2.out.ex e1.out (g1.out l) (.inr (z6 _)) (show m≤bc by omega);have hK:Kc bc lo hi lv lv w w2:=hBk.out.trans ((k1.out.wide (z6 _) hmh).trans (k2.out.wide hlm (z6 _)));have o:=hz2.trans f.out;replace g2:=hd g2;replace hK:=hd hK;replace o:=hd o;clear hz2 F J q k1 k2 g1 e1 q0 q1 q2 cP cE hE E hBk f me1 me2;have hD:B0W v=(((v.kind:Int) !=3)&&((v.role:Int) !=0)):=rfl;have hC:setC kk v=(kk==(v.kind:Int)||(kk==1&&(v.kind:Int)==2)):=rfl;rw[hD] at D;obtain⟨t5,h5⟩:∃t,((v.role:Int) !=0)=t:=⟨_,rfl⟩;rw[h5] at D;obtain⟨t2,h2⟩:∃t,(kk==1)=t:=⟨_,rfl⟩;rw[h2] at hC;obtain⟨K,eK⟩:∃K:Int,(v.kind:Int)=K:=⟨_,rfl⟩;obtain⟨t1,h1⟩:∃t,(kk==K)=t:=⟨_,rfl⟩;rw[eK,h1] at hC;rw[eK] at D ⊢;clear hD;by_cases G:K=3
 ·subst G;rcases (show t1=true∨(t1=false∧t2=false)∨(t1=false∧t2=true) by cases t1<;>cases t2<;>simp) with rfl|⟨rfl,rfl⟩|⟨rfl,rfl⟩;all_goals as_aux_lemma=>
   go_wp2_with (fail);refine J3 e2.out _ _ ?_;intro w3 A M;obtain⟨i,b,j,P⟩:=A.look hv;have d:=(M.block z B).trans o.out;have r0:w3.cell? ⟨z,0,none⟩=some (.string s):=A1 (i:=0) d rfl;have lz3:z<w3.heap.size:=(z4.1 d).1;have c0:w3.cell? ⟨bc,0,none⟩=some (.map (some bm)):=A.ck.cell (i:=0) (by omega);have lb3:=A.ck.lt;have b1:w3.cell? ⟨b,1,none⟩=some (.int .u8 (v.role:Int)):=j.cell (i:=1) (by omega);have lbb:=j.lt;have hbb:b≠bc:=(by obtain⟨c,hc,_⟩:=j;exact A.ne hc (by decide));have L:=P w3.drew rfl;have G:=hd (hK.out.trans M.kc);have g3:=hd (fun l=>M.ex (g2.out l) (show m≤bc by omega));have gx3:=hd (fun l=>M.ex (hk.out l).2 r);replace A:=hd A;replace d:=hd d;clear M P j;go_wp2_with (fail);refine wp_region_noPanic ?_;refine wp_region_held_drew (S:=fun _=>True) (by kernel_rfl) trivial (fun hHeld=>?_);refine J8 0 27 (v:=?_) rfl rfl (by kernel_rfl) (by kernel_rfl) (by kernel_rfl) (fun _ _ _ h=>h) (Or.inl ⟨by rfl,?_⟩) (by assumption) ?_;rotate_left
   ·intro w T;go_simp<;>rfl
   simp only[Act.put,z0,z2,z3];refine J8 1 28 (v:=?_) rfl rfl (by kernel_rfl) (by kernel_rfl) (by kernel_rfl) (fun _ _ _ h=>h) (Or.inl ⟨by rfl,?_⟩) (by assumption) ?_;rotate_left
   ·intro w T;go_simp<;>rfl
   simp only[Act.put,z0,z2,z3];refine J8 2 29 (v:=?_) rfl rfl (by kernel_rfl) (by kernel_rfl) (by kernel_rfl) (fun _ _ _ h=>h) (Or.inl ⟨by rfl,?_⟩) (by assumption) ?_;rotate_left
   ·intro w T;go_simp<;>rfl
   simp only[Act.put,z0,z2,z3];refine J8 3 30 (v:=?_) rfl rfl (by kernel_rfl) (by kernel_rfl) (by kernel_rfl) (fun _ _ _ h=>h) (Or.inl ⟨by rfl,?_⟩) (by assumption) ?_;rotate_left
   ·intro w T;go_simp<;>rfl
   simp only[Act.put,z0,z2,z3];refine J8 4 31 (v:=undef) rfl rfl (by kernel_rfl) (by kernel_rfl) (by kernel_rfl) (fun _ _ _ h=>h) (Or.inr ⟨by rfl,rfl⟩) (by assumption) ?_;simp only[Act.put,z0,z2,z3];refine J8 5 32 (v:=undef) rfl rfl (by kernel_rfl) (by kernel_rfl) (by kernel_rfl) (fun _ _ _ h=>h) (Or.inr ⟨by rfl,rfl⟩) (by assumption) ?_;simp only[Act.put,z0,z2,z3];refine J8 6 33 (v:=undef) rfl rfl (by kernel_rfl) (by kernel_rfl) (by kernel_rfl) (fun _ _ _ h=>h) (Or.inr ⟨by rfl,rfl⟩) (by assumption) ?_;simp only[Act.put,z0,z2,z3];refine J8 7 34 (v:=undef) rfl rfl (by kernel_rfl) (by kernel_rfl) (by kernel_rfl) (fun _ _ _ h=>h) (Or.inr ⟨by rfl,rfl⟩) (by assumption) ?_;simp only[Act.put,z0,z2,z3];refine J8 8 35 (v:=undef) rfl rfl (by kernel_rfl) (by kernel_rfl) (by kernel_rfl) (fun _ _ _ h=>h) (Or.inr ⟨by rfl,rfl⟩) (by assumption) ?_;simp only[Act.put,z0,z2,z3];refine J8 9 36 (v:=undef) rfl rfl (by kernel_rfl) (by kernel_rfl) (by kernel_rfl) (fun _ _ _ h=>h) (Or.inr ⟨by rfl,rfl⟩) (by assumption) ?_;simp only[Act.put,z0,z2,z3];refine J8 10 37 (v:=undef) rfl rfl (by kernel_rfl) (by kernel_rfl) (by kernel_rfl) (fun _ _ _ h=>h) (Or.inr ⟨by rfl,rfl⟩) (by assumption) ?_;simp only[Act.put,z0,z2,z3];refine J8 11 38 (v:=undef) rfl rfl (by kernel_rfl) (by kernel_rfl) (by kernel_rfl) (fun _ _ _ h=>h) (Or.inr ⟨by rfl,rfl⟩) (by assumption) ?_;simp only[Act.put,z0,z2,z3];refine J8 12 39 (v:=undef) rfl rfl (by kernel_rfl) (by kernel_rfl) (by kernel_rfl) (fun _ _ _ h=>h) (Or.inr ⟨by rfl,rfl⟩) (by assumption) ?_;simp only[Act.put,z0,z2,z3];refine J8 13 40 (v:=undef) rfl rfl (by kernel_rfl) (by kernel_rfl) (by kernel_rfl) (fun _ _ _ h=>h) (Or.inr ⟨by rfl,rfl⟩) (by assumption) ?_;simp only[Act.put,z0,z2,z3];refine J8 14 41 (v:=undef) rfl rfl (by kernel_rfl) (by kernel_rfl) (by kernel_rfl) (fun _ _ _ h=>h) (Or.inr ⟨by rfl,rfl⟩) (by assumption) ?_;simp only[Act.put,z0,z2,z3];refine J8 15 42 (v:=undef) rfl rfl (by kernel_rfl) (by kernel_rfl) (by kernel_rfl) (fun _ _ _ h=>h) (Or.inr ⟨by rfl,rfl⟩) (by assumption) ?_;simp only[Act.put,z0,z2,z3];refine J8 16 43 (v:=?_) rfl rfl (by kernel_rfl) (by kernel_rfl) (by kernel_rfl) (fun _ _ _ h=>h) (Or.inl ⟨by rfl,?_⟩) (by assumption) ?_;rotate_left
   ·intro w T;go_simp<;>rfl
   simp only[Act.put,z0,z2,z3];refine wpAnyH_ready (rs:=[17]) (by kernel_rfl) (by simp) ?_;refine AllReadyH.cons rfl (fun K hK=>?_) AllReadyH.nil;go_simp;refine J3 (by exact A.out.drew) _ _ ?_;intro w4 p N;replace p:=hd p;replace N:=hd N;try go_simp
   refine hK.out _ _ trivial (fun hHeld=>?_);clear hK K;try simp only[Act.put,z0,z2,z3]
   refine wpAnyH_done (by kernel_rfl) ?_ _;refine NoPanic.normal ?_;have n:=N.out.drew;have g:=(n.block z B).trans d.out;have s0:w4.cell? ⟨z,0,none⟩=some (.string s):=A1 (i:=0) g rfl;have lz4:z<w4.heap.size:=(z4.1 g).1;have d1:w4.cell? ⟨bc,1,none⟩=some lv:=p.out.ck.cell (i:=1) (by omega);have lb4:=p.out.ck.lt;have hK4:=hd (G.out.trans n.kc);have g4:=hd (fun l=>n.ex (g3.out l) (show m≤bc by omega));have gx4:=hd (fun l=>n.ex (gx3.out l) r);clear N n g r0 c0 b1 L lb3 lz3;go_wp2_with (fail);go_region_held3 (fun w'=>w'.cell? ⟨z,0,none⟩=some (.string s)∧w'.cell? ⟨bc,1,none⟩=some lv) (first|exact⟨C.out.cell B s0,O.out.ck.cell (i:=1) (by omega)⟩|go_keep)
    (first
     |(go_at_call 313;refine A1r _ (by first|exact p.out.drew.loops|exact p.out.loops) s hls _ ?_)
     |(go_at_call 69;refine J3 (by first|exact p.out.drew|exact p.out) _ _ ?_;intro w5 O C;replace O:=hd O;replace C:=hd C))
   have e6:=O.out;rw[xw5 (c':=setC (kE vs e) v) (fun hw=>by rw[←(hk.out hw).1,hC];rfl)] at e6;have I:=hd (D.out w5 e6 (hK4.out.trans C.out.drew.kc) (fun l=>C.out.drew.ex (g4.out l) (show m≤bc by omega)) (fun l=>C.out.drew.ex (gx4.out l) r));clear e6 O C;go_wp2;go_end0;exact I.out
 ·rcases (show K=0∨K=1∨K=2 by omega) with rfl|rfl|rfl;all_goals
   rcases (show t1=true∨(t1=false∧t2=false)∨(t1=false∧t2=true) by cases t1<;>cases t2<;>simp) with rfl|⟨rfl,rfl⟩|⟨rfl,rfl⟩
  all_goals as_aux_lemma=>
   first
   |exact absurd (h1.symm.trans h2) (by decide)
   |clear G
    try (have _:t2=t2:=rfl;clear h2)
    go_wp2_with (fail)
    refine J3 e2.out _ _ ?_
    intro w3 A M
    obtain⟨i,b,j,P⟩:=A.look hv
    have d:=(M.block z B).trans o.out
    have r0:w3.cell? ⟨z,0,none⟩=some (.string s):=A1 (i:=0) d rfl
    have lz3:z<w3.heap.size:=(z4.1 d).1
    have c0:w3.cell? ⟨bc,0,none⟩=some (.map (some bm)):=A.ck.cell (i:=0) (by omega)
    have lb3:=A.ck.lt
    have b1:w3.cell? ⟨b,1,none⟩=some (.int .u8 (v.role:Int)):=j.cell (i:=1) (by omega)
    have lbb:=j.lt
    have hbb:b≠bc:=by obtain⟨c,hc,_⟩:=j;exact A.ne hc (by decide)
    have L:=P w3.drew rfl
    have G:=hd (hK.out.trans M.kc)
    have g3:=hd (fun l=>M.ex (g2.out l) (show m≤bc by omega))
    have gx3:=hd (fun l=>M.ex (hk.out l).2 r)
    replace A:=hd A
    replace d:=hd d
    clear M P j
    go_wp2_with (fail)
    go_region_held3 (fun w'=>w'.cell? ⟨z,0,none⟩=some (.string s)∧w'.cell? ⟨bc,0,none⟩=some (.map (some bm))∧w'.cell? ⟨b,1,none⟩=some (.int .u8 (v.role:Int))) (first|exact⟨N.out.cell B r0,p.out.ck.cell (i:=0) (by omega),N.out.cell hbb b1⟩|go_keep)
     (first|(go_at_call 69;refine J3 (by first|exact A.out.drew|exact A.out) _ _ ?_;intro w4 p N;replace p:=hd p;replace N:=hd N))
    have n:=N.out.drew
    have g:=(n.block z B).trans d.out
    have s0:w4.cell? ⟨z,0,none⟩=some (.string s):=A1 (i:=0) g rfl
    have lz4:z<w4.heap.size:=(z4.1 g).1
    have d1:w4.cell? ⟨bc,1,none⟩=some lv:=p.out.ck.cell (i:=1) (by omega)
    have lb4:=p.out.ck.lt
    have hK4:=hd (G.out.trans n.kc)
    have g4:=hd (fun l=>n.ex (g3.out l) (show m≤bc by omega))
    have gx4:=hd (fun l=>n.ex (gx3.out l) r)
    clear N n g r0 c0 b1 L lb3 lz3
    go_wp2_with (fail)
    go_region_held3 (fun w'=>w'.cell? ⟨z,0,none⟩=some (.string s)∧w'.cell? ⟨bc,1,none⟩=some lv) (first|exact⟨C.out.cell B s0,O.out.ck.cell (i:=1) (by omega)⟩|go_keep)
     (first
      |(go_at_call 313;refine A1r _ (by first|exact p.out.drew.loops|exact p.out.loops) s hls _ ?_)
      |(go_at_call 69;refine J3 (by first|exact p.out.drew|exact p.out) _ _ ?_;intro w5 O C;replace O:=hd O;replace C:=hd C))
    have e6:=O.out
    rw[xw5 (c':=setC (kE vs e) v) (fun hw=>by rw[←(hk.out hw).1,hC];rfl)] at e6
    have I:=hd (D.out w5 e6 (hK4.out.trans C.out.drew.kc) (fun l=>C.out.drew.ex (g4.out l) (show m≤bc by omega)) (fun l=>C.out.drew.ex (gx4.out l) r))
    clear e6 O C
    go_wp2
    go_end0
    exact I.out
end
def A12 (vs:List Vd)(ls:LB)(s:Q3):Prop:=∀{bc bm lo hi t:Nat}{a:Nat→Int}{b:List Nat}{lv u:VL}{x:Bool}{w:WD},lo≤hi→hi≤bc→G5 bc bm a vs b lv ls x w→Z9 (fun _=>0) s lo hi w (.iface t u)→∀(R:RP),(∀w' lv',G5 bc bm a vs b lv' ls (x || !wtS vs ls s) w'→Kc bc lo hi lv lv' w w'→(wtS vs ls s=true→Z9 (kE vs) s lo hi w' (.iface t u))→R (.returned (.tuple #[])) w')→Calls Tryz.prog (sfn s) #[u,.pointer (some ⟨bc,0,none⟩)] w R
theorem B0c (k:Int)(v:Vd):(decide (k=(v.kind:Int))||(decide (k=1)&&decide (v.kind=2)))=setC k v:=by unfold setC;rw[y3];simp only[z1,y2,decide_eq_true_eq,beq_iff_eq];omega
theorem A9K (v:Vd):(decide (v.kind≠3)&&decide (v.role≠0))=B0W v:=by unfold B0W;rw[y3];simp only[z1,decide_eq_true_eq,bne_iff_ne,ne_eq];omega
theorem B3s {vs:List Vd}{ls:LB}{s:BA}{e:Ex}{v:Vd}(h:C1 vs s=some v):wtS vs ls (.set s e)=(!v.arr&&N9 vs e&&setC (kE vs e) v&&B0W v && !(ls.any (fun y=>decide (s=y)))):=by simp only[wtS,A5B,h];rw[←B0c,←A9K];simp only[y7]
theorem B0Q {vs:List Vd}{ls:LB}{s:BA}{i e:Ex}{v:Vd}(h:C1 vs s=some v):wtS vs ls (.setx s i e)=((v.arr&&N9 vs i&&B9 (kE vs i))&&N9 vs e&&setC (kE vs e) v&&B0W v && !(ls.any (fun y=>decide (s=y)))):=by simp only[wtS,A3t,h];rw[←B0c,←A9K];simp only[y7]
theorem B67 {vs:List Vd}{ls:LB}{s:BA}{e:Ex}(y:S2 vs e)(C:knX vs (G0 (.set s e))=true)(d:∀v∈vs,v.kind≤3)(l:ls.length≤1000):A12 vs ls (.set s e):=by intro bc bm lo hi t r E lv u x w j B h A R b;obtain⟨G,i,a⟩:=A;injection i with z p;subst z p;obtain⟨F,D,rfl⟩:=a.iface;obtain⟨v,c⟩:=A2F C (n:=s) (List.mem_cons_self ..);rw[B3s c] at b;refine A4k (pv:=.nilIface) (lo:=lo) (m:=lo) y c (d v (J0 vs s v c).1) l (z6 _) j B h a (!v.arr) false (.tru true) (fun W q _ R f=>A9R q c R (fun w' e k=>f w' (by rw[Bool.not_not];exact e) k.wide0 (fun h=>by cases h))) R (fun w' e k _ g=>b w' lv e k (fun o=>⟨_,rfl,g ?_⟩));simp only[z1] at o;exact o.1.1.1.2
theorem B4u {vs:List Vd}{ls:LB}{s:BA}{i e:Ex}(y:S2 vs i)(F:S2 vs e)(K:knX vs (G0 (.setx s i e))=true)(o:∀v∈vs,v.kind≤3)(r:ls.length≤1000):A12 vs ls (.setx s i e):=by
 intro bc bm lo hi t E N lv u x w B J h H R d;obtain⟨Q,P,m,q,b,j,a,c⟩:=H;injection q with G A;subst G A;obtain⟨O,M,rfl⟩:=c.iface;obtain⟨I,D,rfl⟩:=a.iface;obtain⟨v,l⟩:=A2F K (n:=s) (List.mem_cons_self ..);rw[B0Q l] at d;refine A4k (pv:=.iface I D) (lo:=lo) (m:=m) F l (o v (J0 vs s v l).1) r b j J h c (v.arr&&N9 vs i&&B9 (kE vs i)) (N9 vs i) i (fun W C p R f=>A7E y (show m≤bc by omega) C l (a.kf (lo:=0) (hi:=0) (Kf.of_below p) (.inl (x6 _))) R (fun w' e k g=>f w' e k g)) R (fun w' e k L g=>d w' lv e k (fun z=>⟨_,_,m,rfl,b,j,L ?_,g ?_⟩));all_goals
  simp only[z1] at z
 ·exact z.1.1.1.1.1.2
 ·exact z.1.1.1.2
def A45 (vs:List Vd)(ls:LB):Sl→Prop
 |.nil=>True
 |.cons h t=>A12 vs ls h∧A45 vs ls t
theorem A4d (vs:List Vd)(ls:LB)(s:Q3):∀l:Sl,Q9 vs ls (l.app (.cons s .nil))=(Q9 vs ls l&&wtS vs ls s)
 |.nil=>by simp only[Sl.app,Q9,Bool.and_true,y6]
 |.cons h t=>by simp only[Sl.app,Q9,A4d vs ls s t,y7]
structure CkX (vs:List Vd)(ls:LB)(bc bm:Nat)(fst:Nat→Int)(bs:List Nat)(lv0 lv:VL)(x0:Bool)(g:Option Nat)(l:Sl)(lo hi:Nat)(xs:List VL)(w:WD)(i:Nat)(wr:WD)(rest:Sl):Prop where
 ex:∃done xs1 xs2 m,l=done.app rest∧xs=xs1++xs2∧i=done.len∧xs1.length=done.len∧(Q9 vs ls done=true→G1 (kE vs) g done lo m wr xs1)∧G1 (fun _=>0) g rest m hi wr xs2∧lo≤m∧m≤hi∧G5 bc bm fst vs bs lv ls (x0 || !Q9 vs ls done) wr
 kf:Kc bc lo hi lv0 lv w wr
 ok:A45 vs ls rest
theorem A1y {vs:List Vd}{ls:LB}{l:Sl}(hl:A45 vs ls l)(hlen:l.len≤1000000){bc bm lo hi L:Nat}{q:Nat→Int}{H:List Nat}{lv bv:VL}{x:Bool}{g:Option Nat}{xs:List VL}{w:WD}(h:G5 bc bm q vs H lv ls x w)(k:w.ownsRow L 240 1 bv l.len xs)(hx:G1 (fun _=>0) g l lo hi w xs)(Z:lo≤hi)(hib:hi≤bc)(R:RP)(F:∀w' lv',G5 bc bm q vs H lv' ls (x || !Q9 vs ls l) w'→Kc bc lo hi lv lv' w w'→(Q9 vs ls l=true→G1 (kE vs) g l lo hi w' xs)→R (.returned (.tuple #[])) w'):Calls Tryz.prog 70 #[.pointer (some ⟨bc,0,none⟩),bv] w R:=by
 obtain⟨bo,bcp,rfl,hcp,C⟩:=H5 k;have f:CkX vs ls bc bm q H lv lv x g l lo hi xs w 0 w l:=⟨⟨.nil,[],xs,lo,rfl,rfl,rfl,rfl,fun _=>rfl,hx,z6 _,Z,by rw[show Q9 vs ls .nil=true from rfl,Bool.not_true,Bool.or_false];exact h⟩,Kc.refl _ _ _ _ _,hl⟩;have G:=hd h;replace F:=hd F;replace f:=hd f;replace C:=hd C;replace k:=hd k;clear hx h;go_enter Tryz.func70,Tryz.ntmps70;go_wp2;go_loopw [5,8] (fun _ iv wr=>∃(i:Nat) (n:Sl) (B:VL),iv=.int .i64 (i:Int)∧CkX vs ls bc bm q H lv B x g l lo hi xs w i wr n) (fun _ iv _=>l.len-(intOf iv).toNat);case atStart=>exact⟨0,l,lv,rfl,f.out⟩
 case round=>
  obtain⟨i,n,B,rfl,⟨done,xs1,ab,m,e,r,u,d,o,E,hm1,K,c⟩,j,O⟩:=hrel;have p:l.len=done.len+n.len:=(by rw[e,Sl.len_app]);cases n with
  |nil=>
   simp only[Sl.len] at p;have td:decide ((i:Int)<(l.len:Int))=false:=(by simp;omega);have aa:¬i<l.len:=(by omega);rw[show ab=[] from E,List.append_nil] at r;rw[Sl.app_nil] at e;subst e;subst r;have hs3:=hd (fun Q=>(o Q).wide (z6 _) K);replace j:=hd j;replace c:=hd c;clear o E p u hm1 K d;go_wp2;go_end0;exact F.out _ _ c.out j.out hs3.out
  |cons s t=>
   simp only[Sl.len] at p;have td:decide ((i:Int)<(l.len:Int))=true:=(by simp;omega);have aa:i<l.len:=(by omega);obtain⟨v,ys,a,b,m2,A,p1,p2,p3,p4,p5,V,T⟩:=E;obtain⟨U,uv,rfl⟩:=V.iface;have mc:=A82 V;have mc1:=mc.m;have mc2:=mc.c;obtain⟨Y,rfl,hgl,hgs,hg⟩:=C.out (by omega);have hxi:xs[i]? =some (.iface U uv):=(by rw[r,A,u,←d,List.getElem?_append_right (z6 _),Nat.sub_self];rfl);have J:=hg i _ hxi;obtain⟨gcur,P⟩:∃cur,w.heap[Y]? =some (.cells cur 240 (0,0)):=by
    rcases k.out.2 with ⟨z,e2⟩|⟨g',cap,cur,z,_,hg',_⟩
    ·injection z with z;cases z
    ·injection z with z _ _;injection z with z;injection z with z;subst z;exact⟨cur,hg'⟩
   have c1:wr.cell? ⟨Y,i,none⟩=some (.iface U uv):=(by rw[z9 (w:=w) (a:=⟨Y,i,none⟩) (j.tagX G.out P (by decide) (by decide) (by decide))];exact J);have j0:(0:Int)≤(i:Int)∧(i:Int)<(l.len:Int):=(by omega);have I:A12 vs ls s:=O.1;have cC:=hd (@I bc bm a b U q H B uv _ wr p2 (by omega) c V);generalize sfn s=FS at*;replace c:=hd c;replace j:=hd j;replace T:=hd T;replace o:=hd o;replace p:=hd p;replace u:=hd u;replace e:=hd e;replace r:=hd r;replace A:=hd A;replace d:=hd d;clear hg P J mc I V;go_wp2_with (fail);refine cC.out _ ?_;intro w1 S y X N;have M:=T.out.keep (X.sameX c.out (.inl (by omega)) (by omega));rw[xw1 (b':=wtS vs ls s) (fun _=>rfl),←A4d] at y;have D:CkX vs ls bc bm q H lv S x g l lo hi xs w (i+1) w1 t:=by
    refine⟨⟨done.app (.cons s .nil),xs1++[.iface U uv],ys,m2,?_,?_,?_,?_,fun Q=>?_,M,by omega,p4,y⟩,j.out.trans (X.wide (by omega) (by omega)),O.2⟩
    ·rw[e.out,Sl.app_assoc];rfl
    ·rw[r.out,A.out,List.append_assoc];rfl
    ·rw[Sl.len_app,u.out];rfl
    ·rw[List.length_append,Sl.len_app,d.out];rfl
    ·rw[A4d,z1] at Q;exact G1.snoc (N Q.2) p2 p3 p5 (by omega) (((o.out Q.1).keep (X.sameX c.out (.inr (by omega)) (by omega))).wide (z6 _) p1)
   replace D:=hd D;clear M N X o T c j y;go_wp2;exact⟨⟨i+1,t,S,by go_num,D.out⟩,by have:=p.out;have:=u.out;simp[intOf];omega⟩
end Go.Proofs.YtidhiaaicmfabaaGreatDoor
