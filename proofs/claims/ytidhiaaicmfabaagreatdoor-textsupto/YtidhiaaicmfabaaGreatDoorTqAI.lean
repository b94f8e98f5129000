/- Texts (its parts, joined). -/
import Derived.Defers
import Derived.Recover
import Derived.Laws.EntriesVeiled
import Derived.Test.YtidhiaaicmfabaaGreatDoorTqAG
import Derived.Test.YtidhiaaicmfabaaGreatDoorTqAH
open Array renaming getElem?_eq_some_iff→z3
open Nat renaming lt_of_lt_of_le→z5,le_refl→z7,mul_one→z9,add_zero→y1,le_trans→y7
open List renaming getElem?_eq_getElem→z6,getElem?_eq_some_iff→y4,mem_of_getElem?→y5,flatMap_append→y6
namespace Go.Proofs.YtidhiaaicmfabaaGreatDoor
open Go.RowKit Go.Proofs Go.Deep
set_option maxRecDepth 100000
set_option maxHeartbeats 4000000
open World renaming block_lt_of_cell?→z2,ownsRow_nil→z8,size_setCell→y3
open Below renaming heap_setCell→z4
structure Md where
 n:Nat
 cap:Nat
 nC:Nat
 bs:Nat
 bx:Nat
 op:Nat→Nat
 at_:Nat→Nat
 arg:Nat→Int
 cnt:Nat→Int
 lp:Nat→Int
 to_:Nat→Int
 rl:Nat→Nat
 kd:Nat→Nat
 bd:Int
theorem B6k {w:WD}{b b' T e z i n n' c c':Nat}{A j:Nat→Nat→VL}(h:R8 w b T z n c A)(f:R8 w b' e i n' c' j)(k:T≠e):b≠b':=by rintro rfl;obtain⟨cur,l,_⟩:=h;obtain⟨d,a,_⟩:=f;rw[l] at a;injection a with a;injection a with _ g;exact k g
section
structure Dk where
 w0:WD
 bm:Nat
 bx:Nat
 bd:Nat
 capD:Nat
 bc:Nat
 acc:Option Addr
 capc:Nat
 base:Nat
 c:Nat→Nat
 N:Nat→Int
 To:Nat→Int
 inn:Nat→Int
 M:Md
 ov:VL
 delta:Int
def A8k (bx bc a:Nat)(b:VL)(e c:Int)(sv rv:VL)(dn:Int)(j:Nat):VL:=
 if j=0 then .pointer (some ⟨bx,0,none⟩) else if j=1 then .slice (some ⟨bc,0,none⟩) a a else if j=2 then b else if j=3 then .int .i64 e
 else if j=4 then .int .i64 dn else if j=5 then sv else if j=6 then rv else .int .i64 c
def B2H (D:Dk)(sv rv:VL)(dn:Int):Nat→VL:=A8k D.bx D.bc D.M.nC D.ov 0 D.delta sv rv dn
def A2s (C:Nat→Int)(i _f:Nat):VL:=.int .i64 (C i)
def A1c (rl a:Nat→Nat)(i f:Nat):VL:=if f=0 then .int .i64 (rl i:Int) else .int .i64 (a i:Int)
theorem A6I {rl a:Nat→Nat}{i:Nat}:A1c rl a i 0=.int .i64 (rl i:Int):=rfl
theorem A6H {rl a:Nat→Nat}{i:Nat}:A1c rl a i 1=.int .i64 (a i:Int):=rfl
theorem R8.int {w:WD}{b n cap:Nat}{C:Nat→Int}(h:R8 w b 3 1 n cap (A2s C)){i:Nat}(hi:i<n):w.cell? ⟨b,i,none⟩=some (.int .i64 (C i)):=by have:=h.cell hi (f:=0) (by omega);rwa [z9,y1] at this
structure A0Z (D:Dk):Prop where
 bm:D.bm<D.base
 bx:D.bx<D.base
 bd:D.bd<D.base
 bc:D.bc<D.base
 mc:D.bm≠D.bc
 xm:D.bx≠D.bm
 xc:D.bx≠D.bc
 dm:D.bd≠D.bm
 dc:D.bd≠D.bc
 size:D.base≤D.w0.heap.size
 n:D.M.n≤8000
 nC:D.M.nC≤100
 dl:0≤D.delta∧D.delta≤1000000
 blk:Blk D.w0 D.bx #[.slice D.acc D.M.nC D.capc,.slice (some ⟨D.bd,0,none⟩) D.M.n D.capD,.int .i64 D.M.bd] 36
 tab:R8 D.w0 D.bd 123 6 D.M.n D.capD (N0 D.M.at_ D.M.op D.c D.N D.To D.inn)
 kinds:0<D.M.nC→∃a,D.acc=some ⟨a,0,none⟩∧a<D.base∧a≠D.bm∧a≠D.bc∧R8 D.w0 a 111 2 D.M.nC D.capc (A1c D.M.rl D.M.kd)
 kd:∀i,D.M.kd i≤2
 a1:∀i,i<D.M.n→(D.M.op i=1∨D.M.op i=19)→D.M.arg i=D.N i
 ac:∀i,i<D.M.n→(D.M.op i=2∨D.M.op i=3∨D.M.op i=4∨D.M.op i=5∨D.M.op i=21)→D.M.arg i=(D.c i:Int)
 an:∀i,i<D.M.n→(D.M.op i=4∨D.M.op i=5)→D.M.cnt i=D.N i∧∀k:Nat,(k:Int)<D.N i→D.M.kd (D.c i+k)=D.M.kd (D.c i)
 at_:∀i,i<D.M.n→(D.M.op i=17∨D.M.op i=18)→D.M.to_ i=D.To i
 al:∀i,i<D.M.n→D.M.op i=20→D.M.lp i=D.To i
 hN:∀i,Y2 (D.N i)
 n1:∀i,i<D.M.n→(D.M.op i=4∨D.M.op i=5)→1≤D.N i
structure DM (D:Dk)(sv rv:VL)(dn:Int)(C:Nat→Int)(w:WD):Prop where
 fr:B1w D.bm D.bc D.base D.w0 w
 row:w.rowIs D.bm 40 8 (B2H D sv rv dn)
 cel:R8 w D.bc 3 1 D.M.nC D.M.nC (A2s C)
structure DS (D:Dk)(dn:Int)(C:Nat→Int)(Lf S:List Int)(w:WD):Prop where
 ex:∃sv rv,DM D sv rv dn C w∧w.ownsRow D.base 3 1 sv S.length (A1m S)∧w.ownsRow D.base 3 1 rv Lf.length (A1m Lf)∧(sv.ownBlock=none∨sv.ownBlock≠rv.ownBlock)
 hC:∀j,Y2 (C j)
 hS:∀x∈S,Y2 x
section
variable {D:Dk}{sv rv:VL}{dn:Int}{C:Nat→Int}{w w':WD}
theorem DM.below (b:A0Z D)(h:DM D sv rv dn C w)(a:Below D.base w w'):DM D sv rv dn C w':=
 ⟨⟨a.os.trans h.fr.os,a.tape.trans h.fr.tape,a.output.trans h.fr.output,y7 h.fr.size a.size,fun k c d e=>(a.block k c).trans (h.fr.block k c d e)⟩,
  h.row.of_block (a.block _ b.bm),h.cel.of_block (a.block _ b.bc)⟩
theorem DM.setRow (g:A0Z D)(h:DM D sv rv dn C w)(j:Nat)(v:VL){c b:VL}{a:Int}(e:∀i,i<8→(if i=j then v else B2H D sv rv dn i)=B2H D c b a i):DM D c b a C (w.setCell ⟨D.bm,j,none⟩ v):=
 ⟨⟨h.fr.os,h.fr.tape,h.fr.output,by rw[y3];exact h.fr.size,fun k f d l=>by rw[z4 _ _ _ _ d];exact h.fr.block k f d l⟩,
  (h.row.set j v).congr e,h.cel.setOther (Ne.symm g.mc) _⟩
theorem DM.setDn (a:A0Z D)(h:DM D sv rv dn C w)(x:Int):DM D sv rv x C (w.setCell ⟨D.bm,4,none⟩ (.int .i64 x)):=h.setRow a 4 _ (fun i _=>by unfold B2H A8k;by_cases e:i=4<;>simp[e])
theorem DM.setSv (a:A0Z D)(h:DM D sv rv dn C w)(x:VL):DM D x rv dn C (w.setCell ⟨D.bm,5,none⟩ x):=h.setRow a 5 _ (fun i _=>by unfold B2H A8k;by_cases e:i=5<;>simp[e])
theorem DM.setC (h:DM D sv rv dn C w)(i:A0Z D)(c:Nat)(x:Int):DM D sv rv dn (R6 C c x) (w.setCell ⟨D.bc,c,none⟩ (.int .i64 x)):=
 ⟨⟨h.fr.os,h.fr.tape,h.fr.output,by rw[y3];exact h.fr.size,fun k f a d=>by rw[z4 _ _ _ _ d];exact h.fr.block k f a d⟩,
  h.row.setOther i.mc _,by
   have a:=h.cel.set c 0 (by omega) (.int .i64 x);rw[z9,y1] at a;refine a.congr (fun j _ g l=>?_);have b:g=0:=(by omega);subst b;by_cases e:j=c<;>simp[A2s,R6,e]⟩
theorem DM.c0 (h:DM D sv rv dn C w):w.cell? ⟨D.bm,0,none⟩=some (.pointer (some ⟨D.bx,0,none⟩)):=h.row.cell (i:=0) (by omega)
theorem DM.c1 (h:DM D sv rv dn C w):w.cell? ⟨D.bm,1,none⟩=some (.slice (some ⟨D.bc,0,none⟩) D.M.nC D.M.nC):=h.row.cell (i:=1) (by omega)
theorem DM.c2 (h:DM D sv rv dn C w):w.cell? ⟨D.bm,2,none⟩=some D.ov:=h.row.cell (i:=2) (by omega)
theorem DM.c4 (h:DM D sv rv dn C w):w.cell? ⟨D.bm,4,none⟩=some (.int .i64 dn):=h.row.cell (i:=4) (by omega)
theorem DM.c5 (h:DM D sv rv dn C w):w.cell? ⟨D.bm,5,none⟩=some sv:=h.row.cell (i:=5) (by omega)
theorem DM.img (h:DM D sv rv dn C w)(a:A0Z D):w.cell? ⟨D.bx,0,none⟩=some (.slice D.acc D.M.nC D.capc)∧w.cell? ⟨D.bx,1,none⟩=some (.slice (some ⟨D.bd,0,none⟩) D.M.n D.capD):=by have b:=a.blk.of_block (h.fr.block _ a.bx a.xm a.xc);exact⟨b.cell rfl,b.cell rfl⟩
theorem DM.code (h:DM D sv rv dn C w)(a:A0Z D):R8 w D.bd 123 6 D.M.n D.capD (N0 D.M.at_ D.M.op D.c D.N D.To D.inn):=a.tab.of_block (h.fr.block _ a.bd a.dm a.dc)
theorem DM.kinds (h:DM D sv rv dn C w)(d:A0Z D)(g:0<D.M.nC):∃a,D.acc=some ⟨a,0,none⟩∧R8 w a 111 2 D.M.nC D.capc (A1c D.M.rl D.M.kd):=by obtain⟨a,f,i,e,b,c⟩:=d.kinds g;exact⟨a,f,c.of_block (h.fr.block _ i e b)⟩
theorem DM.cell (h:DM D sv rv dn C w){c:Nat}(a:c<D.M.nC):w.cell? ⟨D.bc,c,none⟩=some (.int .i64 (C c)):=by have:=h.cel.cell a (f:=0) (by omega);rwa [z9,y1] at this
variable {Lf S:List Int}
theorem DS.below (f:A0Z D)(h:DS D dn C Lf S w)(a:Below w.heap.size w w'):DS D dn C Lf S w':=by obtain⟨sv,rv,c,g,e,d⟩:=h.ex;have i:=c.fr.size;have b:Below D.base w w':=⟨a.os,a.tape,a.output,a.size,fun k j=>a.block k (by omega)⟩;exact⟨⟨sv,rv,c.below f b,A0l g a,A0l e a,d⟩,h.hC,h.hS⟩
theorem DS.drew (a:A0Z D)(h:DS D dn C Lf S w):DS D dn C Lf S w.drew:=h.below a (Below.refl _ _).drew
theorem DS.setC (a:A0Z D)(h:DS D dn C Lf S w)(c:Nat)(x:Int)(g:Y2 x):DS D dn (R6 C c x) Lf S (w.setCell ⟨D.bc,c,none⟩ (.int .i64 x)):=by
 obtain⟨sv,rv,b,f,e,d⟩:=h.ex;refine⟨⟨sv,rv,b.setC a c x,N3 f a.bc _,N3 e a.bc _,d⟩,fun j=>?_,h.hS⟩;unfold R6;split
 ·exact g
 ·exact h.hC j
theorem DS.setDn (a:A0Z D)(h:DS D dn C Lf S w)(x:Int):DS D x C Lf S (w.setCell ⟨D.bm,4,none⟩ (.int .i64 x)):=by obtain⟨sv,rv,b,e,d,c⟩:=h.ex;exact⟨⟨sv,rv,b.setDn a x,N3 e a.bm _,N3 d a.bm _,c⟩,h.hC,h.hS⟩
end
def Kp (w w':WD):Prop:=∀(k:Nat) (cur:Array VL) (T:TypeId) (a:Nat×Nat),w.heap[k]? =some (.cells cur T a)→T≠3→T≠40→w'.heap[k]? =w.heap[k]?
theorem Kp.below {w w':WD}(h:Below w.heap.size w w'):Kp w w':=fun k _ _ _ e _ _=>h.block k (z3.1 e).1
theorem Kp.set {w w':WD}{bm:Nat}{f:Nat→VL}{n:Nat}(h:Kp w w')(j:w.rowIs bm 40 n f)(o:Nat)(v:VL):Kp w (w'.setCell ⟨bm,o,none⟩ v):=fun k cur T i e d b=>by refine (z4 _ _ _ _ ?_).trans (h k cur T i e d b);rintro rfl;obtain⟨c,a,_⟩:=j;rw[e] at a;injection a with a;injection a with _ g;exact b g
theorem A0k {w:WD}{b T n cap:Nat}{at_ op c:Nat→Nat}{N To a:Nat→Int}(h:R8 w b T 6 n cap (N0 at_ op c N To a)){i:Nat}(hi:i<n):w.cell? ⟨b,i*6,none⟩=some (.int .i64 (at_ i:Int))∧w.cell? ⟨b,i*6+1,none⟩=some (.int .i64 (op i:Int))∧w.cell? ⟨b,i*6+2,none⟩=some (.int .i64 (c i:Int))∧w.cell? ⟨b,i*6+3,none⟩=some (.int .i64 (N i))∧w.cell? ⟨b,i*6+4,none⟩=some (.int .i64 (To i))∧w.cell? ⟨b,i*6+5,none⟩=some (.int .i64 (a i)):=
 ⟨h.cell0 hi (by omega),h.cell hi (f:=1) (by omega),h.cell hi (f:=2) (by omega),h.cell hi (f:=3) (by omega),h.cell hi (f:=4) (by omega),h.cell hi (f:=5) (by omega)⟩
theorem A29 {D:Dk}(d:A0Z D){dn:Int}{C:Nat→Int}{Lf S:List Int}{x:Int}{w:WD}(h:DS D dn C Lf (x::S) w)(R:RP)(f:∀w',DS D dn C Lf S w'→Kp w w'→R (.returned (.int .i64 x)) w'):Calls Tryz.prog 114 #[.pointer (some ⟨D.bm,0,none⟩)] w R:=by obtain⟨sv,rv,b,e,z,r⟩:=h.ex;obtain⟨g,cap,rfl,A,v,s,n,i⟩:=A2W e (by simp);have o:=b.c5;have c:=B3Z e rfl;have j:=i S.length (by simp);have p:(A1m (x::S))[S.length]? =some (.int .i64 x):=(by have:=B3U (x::S) 0 (by simp);simpa using this);rw[p] at j;refine B1y w D.bm g S.length cap x o (b.row.frozen 5) A c j R ?_;intro W a;have t:=b.fr.size;refine f _ ⟨⟨_,rv,(b.below d ⟨a.os,a.tape,a.output,a.size,fun k B=>a.block k (by omega)⟩).setSv d _,N3 ?_ d.bm _,N3 (A0l z a) d.bm _,r⟩,h.hC,fun y l=>h.hS y (List.mem_cons_of_mem _ l)⟩ ((Kp.below a).set b.row _ _);have u:=B3p (m:=S.length) (A0l e a) (by simp);have q:(A1m (x::S)).take S.length=A1m S:=(by have:=B0x (x::S) 1 (by simp);simpa using this);rwa [q] at u
theorem A16 {D:Dk}(d:A0Z D){dn:Int}{C:Nat→Int}{Lf S:List Int}{w:WD}(h:DS D dn C Lf S w)(m:S.length≤40)(n:Int)(R:RP)(o:∀w',DS D dn C Lf (wrap32 n::S) w'→Kp w w'→R (.returned (.tuple #[])) w'):Calls Tryz.prog 113 #[.pointer (some ⟨D.bm,0,none⟩),.int .i64 n] w R:=by
 obtain⟨sv,rv,c,l,s,q⟩:=h.ex;have x:=c.fr.size;refine B0D w D.bm D.base sv S n d.bm c.fr.size c.c5 (c.row.frozen 5) m l R ?_;intro W t u b j;have hB:Below D.base w W:=⟨b.os,b.tape,b.output,b.size,fun k E=>b.block k (by omega) (fun e=>by have:=(l.lt k e.symm).1;omega)⟩;have p:rv.ownBlock=none∨rv.ownBlock≠sv.ownBlock:=by
  rcases q with e|e
  ·rw[e];cases rv.ownBlock with
   |none=>exact .inl rfl
   |some k=>exact .inr (by simp)
  ·exact .inr (Ne.symm e)
 refine o _ ⟨⟨t,rv,(c.below d hB).setSv d _,N3 u d.bm _,N3 (s.kept b p) d.bm _,?_⟩,h.hC,fun y i=>?_⟩ (Kp.set (w:=w) ?_ c.row _ _)
 ·rcases j with e|⟨g,e,A⟩
  ·rw[e];exact q
  ·refine .inr (fun f=>?_);have:=(s.lt g (by rw[←f,e])).2;omega
 ·rcases List.mem_cons.1 i with rfl|i
  ·exact A8i n
  ·exact h.hS y i
 ·intro k cur T F e z B;refine b.block k (z3.1 e).1 (fun f=>?_);rcases l.2 with ⟨rfl,_⟩|⟨g,cap,r,rfl,_,a,_⟩
  ·cases f
  ·have:k=g:=(by simpa[Value.ownBlock] using f);subst this;rw[e] at a;injection a with a;injection a with _ v;exact z v
theorem A1d {w:WD}{b b' o c:Nat}{v u:VL}(h:w.cell? ⟨b,o,none⟩=some v)(a:b'≠b):(w.setCell ⟨b',c,none⟩ u).cell? ⟨b,o,none⟩=some v:=by rw[World.cell?_setCell_other _ _ _ _ (by intro e;injection e with e;exact a e)];exact h
theorem B4C {w:WD}{b g T d i n cap:Nat}{A:Nat→Nat→VL}{cur:Array VL}{f:Nat×Nat}(h:R8 w b T i n cap A)(a:w.heap[g]? =some (.cells cur d f))(j:T≠d):b≠g:=by rintro rfl;obtain⟨c,k,_⟩:=h;rw[k] at a;injection a with a;injection a with _ e;exact j e
end
theorem B6m {D:Dk}(g:A0Z D){p:Int}{C:Nat→Int}{l S:List Int}{w:WD}(h:DS D p C l S w)(k:S.length≤40)(i:Nat)(hi:i<D.M.n)(E:D.M.op i=1)(R:RP)(b:∀w',DS D p C l (wrap32 (D.N i)::S) w'→R (.returned (.tuple #[.int .i64 ((i:Int)+1),.int .i64 0])) w'):Calls Tryz.prog 61 #[.pointer (some ⟨D.bm,0,none⟩),.int .i64 (i:Int)] w R:=by obtain⟨Q,K,f,u,B,t⟩:=h.ex;have s:=f.c0;have n:=(f.img g).2;have d:=f.code g;obtain⟨q,r,F,A,y,m⟩:=A0k d hi;have x:=f.row.lt;have v:=z2 w _ n;have z:=d.lt;have U:=g.n;have H:(0:Int)≤(i:Int):=(by omega);have V:(i:Int)<(D.M.n:Int):=(by omega);rw[E] at r;replace b:=hd b;replace h:=hd h;clear f u B t d;generalize D.M.at_ i=a at q;generalize D.inn i=vin at m;go_enter Tryz.func61,Tryz.ntmps61;go_wp2_with (fail);have e:=A9 (W:=w) (o:=Obj.cells #[.int .i64 (a:Int),.int .i64 (1:Int),.int .i64 (D.c i:Int),.int .i64 (D.N i),.int .i64 (D.To i),.int .i64 vin] 123) rfl;have j:=h.out.below g ((Below.refl w.heap.size w).alloc (z7 _) (Obj.cells #[.int .i64 (a:Int),.int .i64 (1:Int),.int .i64 (D.c i:Int),.int .i64 (D.N i),.int .i64 (D.To i),.int .i64 vin] 123));generalize w.alloc (Obj.cells #[.int .i64 (a:Int),.int .i64 (1:Int),.int .i64 (D.c i:Int),.int .i64 (D.N i),.int .i64 (D.To i),.int .i64 vin] 123)=W1 at e j ⊢;generalize w.heap.size=g5 at e ⊢;clear q r F A y m s n x v z h;obtain⟨I,L,O,M,P,T,N⟩:=six e;have G:=(z3.1 e).1;replace j:=hd j;replace e:=hd e;refine A16 g j.out k _ _ ?_;intro J c _;replace c:=hd c;go_wp2;exact A6 (b.out _ c.out) rfl
theorem B6o {D:Dk}(b:A0Z D){t:Int}{C:Nat→Int}{m S:List Int}{w:WD}(h:DS D t C m S w)(l:S.length≤40)(i:Nat)(hi:i<D.M.n)(K:D.M.op i=2)(R:RP)(M:D.c i<D.M.nC)(e:∀w',DS D t C m (wrap32 (C (D.c i))::S) w'→R (.returned (.tuple #[.int .i64 ((i:Int)+1),.int .i64 0])) w'):Calls Tryz.prog 61 #[.pointer (some ⟨D.bm,0,none⟩),.int .i64 (i:Int)] w R:=by
 obtain⟨sv,U,k,A,J,z⟩:=h.ex;have p:=k.c0;have q:=(k.img b).2;have f:=k.code b;obtain⟨u,v,L,G,E,n⟩:=A0k f hi;have s:=k.row.lt;have r:=z2 w _ q;have F:=f.lt;have hn:=b.n;have O:(0:Int)≤(i:Int):=(by omega);have j1:(i:Int)<(D.M.n:Int):=(by omega);rw[K] at v;replace e:=hd e;replace h:=hd h;clear k A J z f;generalize D.M.at_ i=c at u;generalize D.inn i=vin at n;go_enter Tryz.func61,Tryz.ntmps61;go_wp2_with (fail);have j:=A9 (W:=w) (o:=Obj.cells #[.int .i64 (c:Int),.int .i64 (2:Int),.int .i64 (D.c i:Int),.int .i64 (D.N i),.int .i64 (D.To i),.int .i64 vin] 123) rfl;have d:=h.out.below b ((Below.refl w.heap.size w).alloc (z7 _) (Obj.cells #[.int .i64 (c:Int),.int .i64 (2:Int),.int .i64 (D.c i:Int),.int .i64 (D.N i),.int .i64 (D.To i),.int .i64 vin] 123));generalize w.alloc (Obj.cells #[.int .i64 (c:Int),.int .i64 (2:Int),.int .i64 (D.c i:Int),.int .i64 (D.N i),.int .i64 (D.To i),.int .i64 vin] 123)=W1 at j d ⊢;generalize w.heap.size=g5 at j ⊢;clear u v L G E n p q s r F h;obtain⟨Q,V,s2,X,s4,s5,Z⟩:=six j;have N:=(z3.1 j).1;obtain⟨B,y,a,_,_,_⟩:=d.ex;have p:=a.c0;have P:=a.c1;have H:=(a.img b).1;have s:=a.row.lt;have r:=z2 W1 _ H;have l3:=a.cel.lt;have x:=b.nC;have I:=a.cell M;have j2:(0:Int)≤(D.c i:Int):=(by omega);have Y:(D.c i:Int)<(D.M.nC:Int):=(by omega);replace d:=hd d;replace j:=hd j;clear a;go_region_with (go_at_call 113;refine A16 b (by first|exact d.out|exact d.out.drew b|exact d.out.drewN b _) (by first|exact l|(simp at l ⊢;omega)) _ _ ?_;intro T g _;replace g:=hd g);all_goals
  go_wp2
  exact A6 (e.out _ g.out) rfl
theorem B7T {D:Dk}(b:A0Z D){H:Int}{C:Nat→Int}{L S:List Int}{x:Int}{w:WD}(h:DS D H C L (x::S) w)(i:Nat)(hi:i<D.M.n)(ho:D.M.op i=3)(R:RP)(V:D.c i<D.M.nC)(l:∀w',DS D H (R6 C (D.c i) (A0R (D.M.kd (D.c i)) x)) L S w'→R (.returned (.tuple #[.int .i64 ((i:Int)+1),.int .i64 0])) w'):Calls Tryz.prog 61 #[.pointer (some ⟨D.bm,0,none⟩),.int .i64 (i:Int)] w R:=by
 obtain⟨sv,rv,q,hs,hr,ha⟩:=h.ex;have t:=q.c0;have M:=(q.img b).2;have g:=q.code b;obtain⟨I,U,k2,Z,k4,B⟩:=A0k g hi;have F:=q.row.lt;have O:=z2 w _ M;have l2:=g.lt;have hn:=b.n;have j0:(0:Int)≤(i:Int):=(by omega);have j1:(i:Int)<(D.M.n:Int):=(by omega);rw[ho] at U;replace l:=hd l;replace h:=hd h;clear q hs hr ha g;generalize D.M.at_ i=e at I;generalize D.inn i=vin at B;go_enter Tryz.func61,Tryz.ntmps61;go_wp2_with (fail);have j:=A9 (W:=w) (o:=Obj.cells #[.int .i64 (e:Int),.int .i64 (3:Int),.int .i64 (D.c i:Int),.int .i64 (D.N i),.int .i64 (D.To i),.int .i64 vin] 123) rfl;have k:=h.out.below b ((Below.refl w.heap.size w).alloc (z7 _) (Obj.cells #[.int .i64 (e:Int),.int .i64 (3:Int),.int .i64 (D.c i:Int),.int .i64 (D.N i),.int .i64 (D.To i),.int .i64 vin] 123));generalize w.alloc (Obj.cells #[.int .i64 (e:Int),.int .i64 (3:Int),.int .i64 (D.c i:Int),.int .i64 (D.N i),.int .i64 (D.To i),.int .i64 vin] 123)=W1 at j k ⊢;generalize w.heap.size=g5 at j ⊢;clear I U k2 Z k4 B t M F O l2 h;obtain⟨N,P,v,G,Q,T,J⟩:=six j;have K:=(z3.1 j).1;replace k:=hd k;refine A29 b (by first|exact k.out|exact k.out.drew b|exact k.out.drewN b _) _ ?_;intro X d m;have r:=(m _ _ _ _ j (by decide) (by decide)).trans j;clear N P v G Q T J K;obtain⟨N,P,v,G,Q,T,J⟩:=six r;have K:=(z3.1 r).1;obtain⟨Y,rv1,a,_,_,_⟩:=d.ex;have t:=a.c0;have c1:=a.c1;have y:=(a.img b).1;have F:=a.row.lt;have O:=z2 X _ y;have l3:=a.cel.lt;have hnC:=b.nC;have hcc:=a.cell V;have j2:(0:Int)≤(D.c i:Int):=(by omega);have j3:(D.c i:Int)<(D.M.nC:Int):=(by omega);obtain⟨E,p,c⟩:=a.kinds b (by omega);rw[p] at y;have kk:=c.cell V (f:=1) (by omega);rw[A6H] at kk;have lk:=c.lt;have kf:=a.cel.frozen (D.c i);have n:=Ne.symm b.mc;have A:=B4C a.cel r (by decide);have z:=Ne.symm b.xc;have s:=B6k a.cel c (by decide);have u:=b.kd (D.c i);replace d:=hd d;clear a c m k j r;go_wp2_with (fail);go_region_held3 (fun w'=>w'.cell? ⟨D.bm,1,none⟩=some (.slice (some ⟨D.bc,0,none⟩) D.M.nC D.M.nC)∧w'.cell? ⟨g5,2,none⟩=some (.int .i64 (D.c i:Int))∧w'.cell? ⟨D.bm,0,none⟩=some (.pointer (some ⟨D.bx,0,none⟩))∧w'.cell? ⟨D.bx,0,none⟩=some (.slice (some ⟨E,0,none⟩) D.M.nC D.capc)∧w'.cell? ⟨E,D.c i*2+1,none⟩=some (.int .i64 (D.M.kd (D.c i):Int))) (first|exact⟨A1d c1 n,A1d v A,A1d t n,A1d y z,A1d kk s⟩|go_keep) (first|(go_at_call 60;refine S1 _ _ (D.M.kd (D.c i)) u _ ?_));all_goals
  go_wp2
  exact A6 (l.out _ ((DS.setC b d.out (D.c i) _ (B4f _ _)).drew b)) rfl
theorem B39 {D:Dk}(a:A0Z D){r:Int}{C:Nat→Int}{n S:List Int}{x:Int}{w:WD}(h:DS D r C n (x::S) w)(m:S.length≤40)(i:Nat)(hi:i<D.M.n)(Q:D.M.op i=16)(R:RP)(e:∀w',DS D r C n (wrap32 (IntKind.i16.wrap x)::S) w'→R (.returned (.tuple #[.int .i64 ((i:Int)+1),.int .i64 0])) w'):Calls Tryz.prog 61 #[.pointer (some ⟨D.bm,0,none⟩),.int .i64 (i:Int)] w R:=by obtain⟨Z,Y,k,B,P,z⟩:=h.ex;have v:=k.c0;have q:=(k.img a).2;have g:=k.code a;obtain⟨s,t,T,N,L,p⟩:=A0k g hi;have G:=k.row.lt;have E:=z2 w _ q;have M:=g.lt;have hn:=a.n;have U:(0:Int)≤(i:Int):=(by omega);have j1:(i:Int)<(D.M.n:Int):=(by omega);rw[Q] at t;replace e:=hd e;replace h:=hd h;clear k B P z g;generalize D.M.at_ i=b at s;generalize D.inn i=vin at p;go_enter Tryz.func61,Tryz.ntmps61;go_wp2_with (fail);have c:=A9 (W:=w) (o:=Obj.cells #[.int .i64 (b:Int),.int .i64 (16:Int),.int .i64 (D.c i:Int),.int .i64 (D.N i),.int .i64 (D.To i),.int .i64 vin] 123) rfl;have d:=h.out.below a ((Below.refl w.heap.size w).alloc (z7 _) (Obj.cells #[.int .i64 (b:Int),.int .i64 (16:Int),.int .i64 (D.c i:Int),.int .i64 (D.N i),.int .i64 (D.To i),.int .i64 vin] 123));generalize w.alloc (Obj.cells #[.int .i64 (b:Int),.int .i64 (16:Int),.int .i64 (D.c i:Int),.int .i64 (D.N i),.int .i64 (D.To i),.int .i64 vin] 123)=W1 at c d ⊢;generalize w.heap.size=g5 at c ⊢;clear s t T N L p v q G E M h;obtain⟨A,F,J,H,K,O,I⟩:=six c;have u:=(z3.1 c).1;replace d:=hd d;refine A29 a (by first|exact d.out|exact d.out.drew a|exact d.out.drewN a _) _ ?_;intro V f l;have y:=(l _ _ _ _ c (by decide) (by decide)).trans c;clear A F J H K O I u;replace f:=hd f;clear l d c y;go_wp2_with (fail);refine S1 _ _ 1 (by omega) _ ?_;rw[show A0R 1 x=IntKind.i16.wrap x from rfl];go_wp2_with (fail);refine A16 a f.out m _ _ ?_;intro X j _;replace j:=hd j;go_wp2;exact A6 (e.out _ j.out) rfl
theorem B6L {D:Dk}(b:A0Z D){B:Int}{C:Nat→Int}{v S:List Int}{x y:Int}{w:WD}(h:DS D B C v (y::x::S) w)(A:S.length≤40)(i:Nat)(hi:i<D.M.n)(ho:D.M.op i=6)(R:RP)(m:(A1v 6 x y).2=0→∀w',DS D B C v (wrap32 (A1v 6 x y).1::S) w'→R (.returned (.tuple #[.int .i64 ((i:Int)+1),.int .i64 0])) w')(l:(A1v 6 x y).2≠0→∀w',DS D B C v S w'→R (.returned (.tuple #[.int .i64 0,.int .i64 (A1v 6 x y).2])) w'):Calls Tryz.prog 61 #[.pointer (some ⟨D.bm,0,none⟩),.int .i64 (i:Int)] w R:=by
 obtain⟨sv,rv,p,X,hr,U⟩:=h.ex;have T:=p.c0;have H:=(p.img b).2;have g:=p.code b;obtain⟨L,Q,k2,k3,Z,G⟩:=A0k g hi;have Y:=p.row.lt;have V:=z2 w _ H;have l2:=g.lt;have hn:=b.n;have j0:(0:Int)≤(i:Int):=(by omega);have j1:(i:Int)<(D.M.n:Int):=(by omega);rw[ho] at Q;replace m:=hd m;replace l:=hd l;replace h:=hd h;clear p X hr U g;generalize D.M.at_ i=e at L;generalize D.inn i=vin at G;go_enter Tryz.func61,Tryz.ntmps61;go_wp2_with (fail);have f:=A9 (W:=w) (o:=Obj.cells #[.int .i64 (e:Int),.int .i64 (6:Int),.int .i64 (D.c i:Int),.int .i64 (D.N i),.int .i64 (D.To i),.int .i64 vin] 123) rfl;have c:=h.out.below b ((Below.refl w.heap.size w).alloc (z7 _) (Obj.cells #[.int .i64 (e:Int),.int .i64 (6:Int),.int .i64 (D.c i:Int),.int .i64 (D.N i),.int .i64 (D.To i),.int .i64 vin] 123));generalize w.alloc (Obj.cells #[.int .i64 (e:Int),.int .i64 (6:Int),.int .i64 (D.c i:Int),.int .i64 (D.N i),.int .i64 (D.To i),.int .i64 vin] 123)=W1 at f c ⊢;generalize w.heap.size=g5 at f ⊢;clear L Q k2 k3 Z G T H Y V l2 h;obtain⟨I,J,N,K,O,P,M⟩:=six f;have F:=(z3.1 f).1;replace c:=hd c;refine A29 b (by first|exact c.out|exact c.out.drew b|exact c.out.drewN b _) _ ?_;intro w2 a q;have z:=(q _ _ _ _ f (by decide) (by decide)).trans f;clear I J N K O P M F;have n:=c.out.hS y (by simp);have r:=c.out.hS x (by simp);unfold Y2 at n r;replace a:=hd a;clear q c f;go_wp2_with (fail);refine A29 b (by first|exact a.out|exact a.out.drew b|exact a.out.drewN b _) _ ?_;intro w3 d k;have t:=(k _ _ _ _ z (by decide) (by decide)).trans z;obtain⟨I,J,N,K,O,P,M⟩:=six t;have F:=(z3.1 t).1;replace d:=hd d;clear k a z t;go_wp2_with (fail);refine B2F _ 6 x y r n (by omega) _ ?_;generalize A1v 6 x y=tv at*;by_cases s:tv.2=0
 ·have t1:(tv.2 !=0)=false:=(by simpa using s);have u:=hd (m.out s);clear m l;go_wp2_with (fail);refine A16 b d.out A _ _ ?_;intro w9 j _;replace j:=hd j;go_wp2;exact A6 (u.out _ j.out) rfl
 ·have t1:(tv.2 !=0)=true:=(by simpa using s);have E:=hd (l.out s);clear m l;go_wp2;exact A6 (E.out _ d.out) rfl
def T8 (rl:Nat→Nat)(C:Nat→Int):Nat→List Int
 |0=>[]
 |k+1=>if rl k=1 then C k::T8 rl C k else T8 rl C k
theorem A5z (rl:Nat→Nat)(C:Nat→Int):∀k,(T8 rl C k).length≤k
 |0=>by simp[T8]
 |k+1=>by have:=A5z rl C k;unfold T8;split<;>simp<;>omega
def atF (rl:Nat→Nat):Nat→Nat→List Nat
 |0,_=>[]
 |k+1,i=>if rl i=0 then i::atF rl k (i+1) else atF rl k (i+1)
theorem A9P {rl:Nat→Nat}:∀(k i:Nat),(atF rl k i).length≤k
 |0,_=>by simp[atF]
 |k+1,i=>by
  have:=A9P (rl:=rl) k (i+1);simp only[atF];split<;>simp<;>omega
theorem A7b {rl:Nat→Nat}:∀(k i:Nat),atF rl (k+1) i=atF rl k i++(if rl (i+k)=0 then [i+k] else [])
 |0,i=>by simp[atF]
 |k+1,i=>by
  have a:=A7b (rl:=rl) k (i+1);rw[show i+1+k=i+(k+1) by omega] at a;rw[atF,a];conv=>rhs;rw[atF]
  split<;>simp
def A3P (l:List Nat):List VL:=l.map (fun a:Nat=>Value.int .i64 (a:Int))
theorem A5v (w:WD)(bm bx bc d capc:Nat)(acc:Option Addr)(rl K:Nat→Nat)(C:Nat→Int)(U:d≤100)(y:∀j,Y2 (C j))(D:w.cell? ⟨bm,0,none⟩=some (.pointer (some ⟨bx,0,none⟩)))(G:w.cell? ⟨bm,1,none⟩=some (.slice (some ⟨bc,0,none⟩) d d))(E:w.cell? ⟨bx,0,none⟩=some (.slice acc d capc))(o:0<d→∃s,acc=some ⟨s,0,none⟩∧R8 w s 111 2 d capc (A1c rl K))(r:R8 w bc 3 1 d d (A2s C))(R:RP)(h:∀v w',Below w.heap.size w w'→w'.ownsRow w.heap.size 3 1 v (T8 rl C d).length (A1m (T8 rl C d))→R (.returned v) w'):Calls Tryz.prog 53 #[.pointer (some ⟨bm,0,none⟩),.int .i64 1] w R:=by
 have q:=z2 w _ D;have x:=z2 w _ E;have u:=r.lt;replace h:=hd h;replace r:=hd r;replace y:=hd y;replace o:=hd o;go_enter Tryz.func53,Tryz.ntmps53;go_wp2;go_loopw [5,6] (fun v i wr=>∃(k:Nat),k≤d∧i=.int .i64 k∧wr.ownsRow w.heap.size 3 1 v (T8 rl C k).length (A1m (T8 rl C k))∧Below w.heap.size w wr) (fun _ i _=>d-(intOf i).toNat);case atStart=>exact⟨0,by omega,rfl,z8 _ _ _ _,Below.refl _ _⟩
 case round=>
  rename_i u3 u11;obtain⟨k,F,rfl,b,a⟩:=hrel;obtain⟨T,S,rfl⟩:=V4 b;have B:=A5z rl C k;have Q:wr.cell? ⟨bm,0,none⟩=some (.pointer (some ⟨bx,0,none⟩)):=(a.cell (p:=⟨bm,0,none⟩) q).trans D;have N:wr.cell? ⟨bm,1,none⟩=some (.slice (some ⟨bc,0,none⟩) d d):=(a.cell (p:=⟨bm,1,none⟩) q).trans G;have X:wr.cell? ⟨bx,0,none⟩=some (.slice acc d capc):=(a.cell (p:=⟨bx,0,none⟩) x).trans E;have A:=a.size;by_cases m:k<d
  ·obtain⟨s,rfl,f⟩:=o.out (by omega);have V:=(r.out.of_block (w':=wr) (a.block bc u)).int m;have g:=f.of_block (w':=wr) (a.block s f.lt);have I:=g.cell0 m (by omega);rw[A6I] at I;have M:=g.lt;have z:=y.out k;unfold Y2 at z;have O:(0:Int)≤(k:Int)∧(k:Int)<(d:Int):=(by omega);clear g f;replace a:=hd a;by_cases n:rl k=1
   ·have L:((rl k:Int)==1)=true:=(by simp[n]);have l:T8 rl C (k+1)=C k::T8 rl C k:=(by simp[T8,n]);replace l:=hd l;replace n:=hd n;replace b:=hd b;go_wp2_with (first|(at_builtin;refine C3 _ rfl _ _ 38 rfl w.heap.size 3 _ 1 8 A5w A19 rfl (by decide) _ _ _ rfl (by exact b.out.alloc _) _ 1 1 [.int .i64 (C k)] rfl (by exact A9 (by simp)) rfl (A4f _) (by unfold maxLen;omega) (by omega) (by simp;omega) ?_;intro P w1 c e;obtain⟨H,J,rfl⟩:=V4 c;replace c:=hd c;replace e:=hd e));refine⟨⟨k+1,by omega,by go_num,by rw[l.out,A5Q];exact c.out,?_⟩,by simp[intOf];omega⟩;exact (a.out.alloc A _).grown e.out (by simp;omega) (fun k o=>(b.out.lt k o).1)
   ·have L:((rl k:Int)==1)=false:=(by simp;omega);have l:T8 rl C (k+1)=T8 rl C k:=(by simp[T8,n]);replace l:=hd l;replace b:=hd b;go_wp2;exact⟨⟨k+1,by omega,by go_num,by rw[l.out];exact b.out,a.out⟩,by simp[intOf];omega⟩
  ·have t:k=d:=(by omega);subst t;replace b:=hd b;replace a:=hd a;go_wp2;exact A6 (h.out _ _ a.out b.out) rfl
section
structure Dx where
 bm:Nat
 bx:Nat
 bd:Nat
 capD:Nat
 bc:Nat
 acc:Option Addr
 capc:Nat
 c:Nat→Nat
 N:Nat→Int
 To:Nat→Int
 inn:Nat→Int
 M:Md
def Dx.at_ (X:Dx)(b:WD)(ov:VL)(a:Int):Dk:=⟨b,X.bm,X.bx,X.bd,X.capD,X.bc,X.acc,X.capc,b.heap.size,X.c,X.N,X.To,X.inn,X.M,ov,a⟩
structure B5L (X:Dx):Prop where
 n:X.M.n≤8000
 nC:X.M.nC≤100
 kd:∀i,X.M.kd i≤2
 a1:∀i,i<X.M.n→(X.M.op i=1∨X.M.op i=19)→X.M.arg i=X.N i
 ac:∀i,i<X.M.n→(X.M.op i=2∨X.M.op i=3∨X.M.op i=4∨X.M.op i=5∨X.M.op i=21)→X.M.arg i=(X.c i:Int)
 an:∀i,i<X.M.n→(X.M.op i=4∨X.M.op i=5)→X.M.cnt i=X.N i∧∀k:Nat,(k:Int)<X.N i→X.M.kd (X.c i+k)=X.M.kd (X.c i)
 at_:∀i,i<X.M.n→(X.M.op i=17∨X.M.op i=18)→X.M.to_ i=X.To i
 al:∀i,i<X.M.n→X.M.op i=20→X.M.lp i=X.To i
 hN:∀i,Y2 (X.N i)
 n1:∀i,i<X.M.n→(X.M.op i=4∨X.M.op i=5)→1≤X.N i
structure DSt (X:Dx)(e:Int)(C:Nat→Int)(ov:VL)(dn:Int)(w:WD):Prop where
 row:∃c b d,w.rowIs X.bm 40 8 (A8k X.bx X.bc X.M.nC ov e c b d dn)
 cel:R8 w X.bc 3 1 X.M.nC X.M.nC (A2s C)
 blk:Blk w X.bx #[.slice X.acc X.M.nC X.capc,.slice (some ⟨X.bd,0,none⟩) X.M.n X.capD,.int .i64 X.M.bd] 36
 tab:R8 w X.bd 123 6 X.M.n X.capD (N0 X.M.at_ X.M.op X.c X.N X.To X.inn)
 kinds:0<X.M.nC→∃a,X.acc=some ⟨a,0,none⟩∧R8 w a 111 2 X.M.nC X.capc (A1c X.M.rl X.M.kd)
 hC:∀j,Y2 (C j)
theorem A2D {w:WD}{b g T e:Nat}{c c':Array VL}{j d:Nat×Nat}(h:w.heap[b]? =some (.cells c T j))(a:w.heap[g]? =some (.cells c' e d))(f:T≠e):b≠g:=by rintro rfl;rw[h] at a;injection a with a;injection a with _ i;exact f i
section
variable {X:Dx}{e:Int}{C:Nat→Int}{ov:VL}{dn:Int}{w w':WD}
theorem DSt.below (h:DSt X e C ov dn w)(a:Below w.heap.size w w'):DSt X e C ov dn w':=by obtain⟨g,f,i,b⟩:=h.row;refine⟨⟨g,f,i,b.of_block (a.block _ b.lt)⟩,h.cel.of_block (a.block _ h.cel.lt),h.blk.of_block (a.block _ h.blk.lt),h.tab.of_block (a.block _ h.tab.lt),fun j=>?_,h.hC⟩;obtain⟨k,d,c⟩:=h.kinds j;exact⟨k,d,c.of_block (a.block _ c.lt)⟩
theorem DSt.ne (h:DSt X e C ov dn w):X.bm≠X.bc∧X.bx≠X.bm∧X.bx≠X.bc∧X.bd≠X.bm∧X.bd≠X.bc:=by obtain⟨i,f,j,d,a,_⟩:=h.row;obtain⟨g,b,_⟩:=h.cel;obtain⟨k,hd,_⟩:=h.tab;have c:=h.blk;exact⟨A2D a b (by decide),A2D c a (by decide),A2D c b (by decide),A2D hd a (by decide),A2D hd b (by decide)⟩
theorem DSt.ok (h:DSt X e C ov dn w)(a:B5L X){d:Int}(hd:0≤d∧d≤1000000):A0Z (X.at_ w ov d):=by obtain⟨k,n,o,j,l⟩:=h.ne;obtain⟨v,s,x,b⟩:=h.row;refine⟨b.lt,h.blk.lt,h.tab.lt,h.cel.lt,k,n,o,j,l,z7 _,a.n,a.nC,hd,h.blk,h.tab,fun p=>?_,a.kd,a.a1,a.ac,a.an,a.at_,a.al,a.hN,a.n1⟩;obtain⟨m,i,c⟩:=h.kinds p;obtain⟨t,b,_⟩:=b;obtain⟨u,q,_⟩:=h.cel;have f:=c;obtain⟨r,g,_⟩:=f;exact⟨m,i,c.lt,A2D g b (by decide),A2D g q (by decide),c⟩
end
theorem A9k {l:List Nat}{j a:Nat}(h:l[j]? =some a):(A3P l)[j]? =some (.int .i64 (a:Int)):=by simp[A3P,h]
end
def B3j (b i:Nat→Nat)(d c:Nat→Int)(h g:Nat→Nat)(f n cap e bx:Nat)(a:Nat→Int)(bd:Int):Md:=⟨n,cap,f,e,bx,b,i,d,c,O8 b,a,h,g,bd⟩
def ba (l:List UInt8):BA:=⟨l.toArray⟩
theorem A90 (l:List UInt8):(ba l).size=l.length:=by simp[ba,ByteArray.size]
theorem B9l (l:List UInt8)(i:Nat)(c:UInt8)(h:l[i]? =some c):bt (ba l) i=c.toNat:=by have hi:i<l.length:=(y4.1 h).1;have b:=J4 (ba l) i (by rw[A90];exact hi);rw[←b];have d:(ba l).data[i]? =some c:=(by simp only[ba,List.getElem?_toArray];exact h);obtain⟨_,a⟩:=z3.1 d;show ((ba l).data[i]).toNat=_;rw[a]
theorem A4u (l:List UInt8)(a b:Nat):(ba l).extract a b=ba ((l.drop a).take (b-a)):=by apply ByteArray.ext;simp only[ba,ByteArray.data_extract,List.extract_toArray,List.extract_eq_take_drop]
structure CnX (X:Dx):Prop where
 nC:X.M.nC=2
 r0:X.M.rl 0=0
 r1:X.M.rl 1=1
 k0:X.M.kd 0=1
 k1:X.M.kd 1=1
 n:X.M.n=6
 o0:X.M.op 0=2
 o1:X.M.op 1=1
 o2:X.M.op 2=6
 o3:X.M.op 3=16
 o4:X.M.op 4=3
 o5:X.M.op 5=0
 c0:X.c 0=0
 n1:X.N 1=1
 c4:X.c 4=1
def cnS:Nat→List Int
 |1=>[32767]|2=>[1,32767]|3=>[32768]|4=>[-32768]|_=>[]
def cnC (C:Nat→Int)(i:Nat):Nat→Int:=if i<5 then R6 C 0 32767 else R6 (R6 C 0 32767) 1 (-32768)
theorem B9J {D:Dk}(f:A0Z D){X:Dx}(c:CnX X)(d:D.M=X.M)(j:D.c=X.c)(m:D.N=X.N){C:Nat→Int}{i:Int}{w:WD}{k:Nat}(o:k<5)(h:DS D i (cnC C k) [] (cnS k) w)(R:RP)(b:∀w',DS D i (cnC C (k+1)) [] (cnS (k+1)) w'→R (.returned (.tuple #[.int .i64 ((k:Int)+1),.int .i64 0])) w'):Calls Tryz.prog 61 #[.pointer (some ⟨D.bm,0,none⟩),.int .i64 (k:Int)] w R:=by
 have q:D.M.n=6:=d▸c.n;have p:D.M.nC=2:=d▸c.nC;have:k=0∨k=1∨k=2∨k=3∨k=4:=(by omega);rcases this with rfl|rfl|rfl|rfl|rfl
 ·have g:D.c 0=0:=j▸c.c0;refine B6o f h (by decide) 0 (by omega) (d▸c.o0) R (by omega) (fun w' a=>b w' ?_);rw[g,show wrap32 (cnC C 0 0)=32767 by rw[show cnC C 0 0=32767 from rfl];kernel_rfl] at a;exact a
 ·have n:D.N 1=1:=m▸c.n1;refine B6m f h (by decide) 1 (by omega) (d▸c.o1) R (fun w' a=>b w' ?_);rw[n,show wrap32 1=1 by kernel_rfl] at a;exact a
 ·exact B6L (x:=32767) (y:=1) (S:=[]) f h (by decide) 2 (by omega) (d▸c.o2) R (fun _ w' a=>b w' (by rw[show wrap32 (A1v 6 32767 1).1=32768 by kernel_rfl] at a;exact a)) (fun e=>absurd rfl e)
 ·exact B39 (x:=32768) (S:=[]) f h (by decide) 3 (by omega) (d▸c.o3) R (fun w' a=>b w' (by rw[show wrap32 (IntKind.i16.wrap 32768)= -32768 by kernel_rfl] at a;exact a))
 ·have g:D.c 4=1:=j▸c.c4;have l:D.M.kd 1=1:=d▸c.k1;refine B7T (x:= -32768) (S:=[]) f h 4 (by omega) (d▸c.o4) R (by omega) (fun w' a=>b w' ?_);rw[g,l] at a;exact a
theorem B8y (w:WD)(X:Dx)(hX:B5L X)(F:CnX X){C:Nat→Int}{ov:VL}{dn0:Int}(h:DSt X 0 C ov dn0 w)(v:VL)(l:List Int)(hl:l=[32767])(hv:B5m X.bc w v l)(R:RP)(fin:∀w' g cp,B1w X.bm X.bc w.heap.size w w'→w'.cell? ⟨X.bm,2,none⟩=some (.slice (some ⟨g,0,none⟩) 1 cp)→1≤cp→w'.cell? ⟨g,0,none⟩=some (.int .i64 (-32768))→R (.returned (.int .i64 0)) w'):Calls Tryz.prog 24 #[.pointer (some ⟨X.bm,0,none⟩),v,.int .i64 0] w R:=by
 obtain⟨dl,sv,rv,hr⟩:=h.row;have c0:w.cell? ⟨X.bm,0,none⟩=some (.pointer (some ⟨X.bx,0,none⟩)):=hr.cell (i:=0) (by omega);have c1:w.cell? ⟨X.bm,1,none⟩=some (.slice (some ⟨X.bc,0,none⟩) X.M.nC X.M.nC):=hr.cell (i:=1) (by omega);have c3:w.cell? ⟨X.bm,3,none⟩=some (.int .i64 0):=hr.cell (i:=3) (by omega);have x0:w.cell? ⟨X.bx,0,none⟩=some (.slice X.acc X.M.nC X.capc):=h.blk.cell rfl;have M:=hr.lt;have lbx:=h.blk.lt;have lbc:=h.cel.lt;have hnC:=hX.nC;obtain⟨N,hxm,hxc,_,_⟩:=h.ne;replace h:=hd h;replace hv:=hd hv;replace fin:=hd fin;replace hr:=hd hr;go_enter Tryz.func24,Tryz.ntmps24;go_wp2;go_loopw [7,8] (fun at_ i wr=>∃(k:Nat),k≤X.M.nC∧i=.int .i64 k∧wr.ownsRow w.heap.size 3 1 at_ (atF X.M.rl k 0).length (A3P (atF X.M.rl k 0))∧Below w.heap.size w wr) (fun _ i _=>X.M.nC-(intOf i).toNat);case atStart=>exact⟨0,by omega,rfl,z8 _ _ _ _,Below.refl _ _⟩
 case round=>
  rename_i u7 u8;obtain⟨k,hk0,rfl,m,c⟩:=hrel;obtain⟨ao,cp,rfl⟩:=V4 m;have hlen:=A9P (rl:=X.M.rl) k 0;have d0:wr.cell? ⟨X.bm,0,none⟩=some (.pointer (some ⟨X.bx,0,none⟩)):=(c.cell (p:=⟨X.bm,0,none⟩) M).trans c0;have y0:wr.cell? ⟨X.bx,0,none⟩=some (.slice X.acc X.M.nC X.capc):=(c.cell (p:=⟨X.bx,0,none⟩) lbx).trans x0;have hwr:=c.size;by_cases hlt:k<X.M.nC
  ·obtain⟨bk,Q,G⟩:=h.out.kinds (by omega);rw[Q] at y0;have htr:=G.of_block (w':=wr) (c.block bk G.lt);have k0:=htr.cell0 hlt (by omega);rw[A6I] at k0;have hbk:=htr.lt;have j0:(0:Int)≤(k:Int)∧(k:Int)<(X.M.nC:Int):=(by omega);clear htr G;replace c:=hd c;have z:=A7b (rl:=X.M.rl) k 0;rw[Nat.zero_add] at z;by_cases E:X.M.rl k=0
   ·have t1:((X.M.rl k:Int)==0)=true:=(by simp[E]);rw[if_pos E] at z;replace z:=hd z;replace E:=hd E;replace m:=hd m;go_wp2_with (first|(at_builtin;refine C3 _ rfl _ _ 38 rfl w.heap.size 3 _ 1 8 A5w A19 rfl (by decide) _ _ _ rfl (by exact m.out.alloc _) _ 1 1 [.int .i64 (k:Int)] rfl (by exact A9 (by simp)) rfl (A4f _) (by unfold maxLen;omega) (by omega) (by simp;omega) ?_;intro v1 w1 D P;obtain⟨ao1,cp1,rfl⟩:=V4 D;replace D:=hd D;replace P:=hd P));refine⟨⟨k+1,by omega,by go_num,?_,?_⟩,by simp[intOf];omega⟩
    ·rw[z.out];have:=D.out;simpa[A3P] using this
    ·exact (c.out.alloc hwr _).grown P.out (by simp;omega) (fun k U=>(m.out.lt k U).1)
   ·have t1:((X.M.rl k:Int)==0)=false:=(by simp;omega);rw[if_neg E,List.append_nil] at z;replace z:=hd z;replace m:=hd m;go_wp2;exact⟨⟨k+1,by omega,by go_num,by rw[z.out];exact m.out,c.out⟩,by simp[intOf];omega⟩
  ·have hkn:k=X.M.nC:=(by omega);subst hkn;clear hlt hk0;have eA:atF X.M.rl X.M.nC 0=[0]:=(by rw[F.nC];simp[atF,F.r0,F.r1]);generalize atF X.M.rl X.M.nC 0=A at*;replace m:=hd m;replace c:=hd c;obtain⟨va,vcap,rfl,hvc,ad⟩:=id hv.out;rename WD=>wo;have hlenA:0<A.length∧A.length≤1:=(by rw[eA];decide);have hlenl:0<l.length∧l.length≤1:=(by rw[hl];decide);have Y:∀(j a:Nat),A[j]? =some a→a=0:=fun j a h=>by rw[eA] at h;simpa using y5 h
   have ab:∀(j:Nat) (x:Int),l[j]? =some x→x=32767:=fun j x h=>by rw[hl] at h;simpa using y5 h
   have tl:((l.length:Int) !=(A.length:Int))=false:=(by simp;omega);obtain⟨ga,cq,e,hac,hga,hgl,_,e5⟩:=A2W m.out (by omega);injection e with e _ e';subst e e';have ac:∀(j a:Nat),A[j]? =some a→wo.cell? ⟨ga,j,none⟩=some (.int .i64 (a:Int)):=fun j a hj=>by rw[e5 j (y4.1 hj).1];exact A9k hj
   obtain⟨g,o,rfl,hgne,S⟩:∃g o,va=some ⟨g,o,none⟩∧g≠X.bc∧∀(j:Nat) (x:Int),l[j]? =some x→w.cell? ⟨g,o+j,none⟩=some (.int .i64 x):=by
    rcases ad with ⟨g,o,e1,e2,e3⟩|e
    ·exact⟨g,o,e1,e2,e3⟩
    ·rw[e] at hl;cases hl
   have V:g<w.heap.size:=z2 _ _ (S 0 32767 (by rw[hl];rfl));have I:=c.out.size;replace S:=hd S;replace ac:=hd ac;replace Y:=hd Y;replace ab:=hd ab;replace eA:=hd eA;replace hl:=hd hl;clear ad e5;go_wp2;go_loopw [9] (fun i wr2=>∃j:Nat,j≤A.length∧i=.int .i64 j∧Below wo.heap.size wo wr2) (fun i _=>A.length-(intOf i).toNat);case atStart=>exact⟨0,by omega,rfl,Below.refl _ _⟩
   case round=>
    obtain⟨j,hj,rfl,n⟩:=hrel;by_cases aa:j<A.length
    ·obtain⟨a,ha⟩:∃a,A[j]? =some a:=⟨_,z6 aa⟩;obtain⟨x,hx⟩:∃x,l[j]? =some x:=⟨_,z6 (by omega)⟩;have ea:=Y.out j a ha;have ex:=ab.out j x hx;have e1:wr.cell? ⟨ga,j,none⟩=some (.int .i64 (a:Int)):=(n.cell (p:=⟨ga,j,none⟩) hgl).trans (ac.out j a ha);have e2:wr.cell? ⟨g,o+j,none⟩=some (.int .i64 x):=(n.cell (p:=⟨g,o+j,none⟩) (z5 V I)).trans ((c.out.cell (p:=⟨g,o+j,none⟩) V).trans (S.out j x hx));have d0:wr.cell? ⟨X.bm,0,none⟩=some (.pointer (some ⟨X.bx,0,none⟩)):=(n.cell (p:=⟨X.bm,0,none⟩) (z5 M I)).trans ((c.out.cell (p:=⟨X.bm,0,none⟩) M).trans c0);have y0:wr.cell? ⟨X.bx,0,none⟩=some (.slice X.acc X.M.nC X.capc):=(n.cell (p:=⟨X.bx,0,none⟩) (z5 lbx I)).trans ((c.out.cell (p:=⟨X.bx,0,none⟩) lbx).trans x0);obtain⟨bk,Q,G⟩:=h.out.kinds (by rw[F.nC];decide);rw[Q] at y0;have haC:a<X.M.nC:=(by rw[F.nC];omega);have kk:=G.cell haC (f:=1) (by omega);rw[A6H] at kk;have kk2:wr.cell? ⟨bk,a*2+1,none⟩=some (.int .i64 (X.M.kd a:Int)):=(n.cell (p:=⟨bk,a*2+1,none⟩) (z5 G.lt I)).trans ((c.out.cell (p:=⟨bk,a*2+1,none⟩) G.lt).trans kk);have hkd:=hX.kd a;have j0:(0:Int)≤(j:Int)∧(j:Int)<(A.length:Int):=(by omega);have j1:(0:Int)≤(j:Int)∧(j:Int)<(l.length:Int):=(by omega);have j2:(0:Int)≤(a:Int)∧(a:Int)<(X.M.nC:Int):=(by omega);have tf:(A0R (X.M.kd a) x !=x)=false:=(by rw[ea,ex,F.k0];rfl);clear G kk;replace n:=hd n;replace ea:=hd ea;replace ex:=hd ex;go_wp2_with (fail);go_quiet (first|(go_at_call 60;exact Calls.quiet_of_same (S1 _ _ (X.M.kd a) hkd _ ⟨rfl,rfl⟩)));go_wp2;exact⟨⟨j+1,by omega,by go_num,below_drewN n.out _⟩,by simp[intOf];omega⟩
    ·have hja:j=A.length:=(by omega);subst hja;rename WD=>wb;have y:=hd (c.out.trans (n.mono I));have hwb:=n.size;replace n:=hd n;clear aa hj;go_wp2;go_loopw [10] (fun i wr3=>∃j:Nat,j≤A.length∧i=.int .i64 j∧A8 X.bc wb wr3∧R8 wr3 X.bc 3 1 X.M.nC X.M.nC (A2s (if j=0 then C else R6 C 0 32767))) (fun i _=>A.length-(intOf i).toNat);case atStart=>exact⟨0,by omega,rfl,A8.refl _ _,h.out.cel.of_block (y.out.block _ lbc)⟩
     case round=>
      obtain⟨j,hj,rfl,b,q⟩:=hrel;have hwc:=b.size;by_cases aa:j<A.length
      ·obtain⟨a,ha⟩:∃a,A[j]? =some a:=⟨_,z6 aa⟩;obtain⟨x,hx⟩:∃x,l[j]? =some x:=⟨_,z6 (by omega)⟩;have ea:=Y.out j a ha;have ex:=ab.out j x hx;have haC:a<X.M.nC:=(by rw[F.nC];omega);have e1:wr.cell? ⟨ga,j,none⟩=some (.int .i64 (a:Int)):=(b.cell (p:=⟨ga,j,none⟩) (z5 hgl hwb) (by show ga≠X.bc;omega)).trans ((n.out.cell (p:=⟨ga,j,none⟩) hgl).trans (ac.out j a ha));have e2:wr.cell? ⟨g,o+j,none⟩=some (.int .i64 x):=(b.cell (p:=⟨g,o+j,none⟩) (z5 V (y7 I hwb)) hgne).trans ((y.out.cell (p:=⟨g,o+j,none⟩) V).trans (S.out j x hx));have d1':wr.cell? ⟨X.bm,1,none⟩=some (.slice (some ⟨X.bc,0,none⟩) X.M.nC X.M.nC):=(b.cell (p:=⟨X.bm,1,none⟩) (z5 M (y7 I hwb)) N).trans ((y.out.cell (p:=⟨X.bm,1,none⟩) M).trans c1);have kc:=q.int haC;have kf:=q.frozen a;have lbc2:=q.lt;have j0:(0:Int)≤(j:Int)∧(j:Int)<(A.length:Int):=(by omega);have j1:(0:Int)≤(j:Int)∧(j:Int)<(l.length:Int):=(by omega);have j2:(0:Int)≤(a:Int)∧(a:Int)<(X.M.nC:Int):=(by omega);have Z:R8 (wr.setCell ⟨X.bc,a,none⟩ (.int .i64 x)) X.bc 3 1 X.M.nC X.M.nC (A2s (if j+1=0 then C else R6 C 0 32767)):=(by have E:=q.set a 0 (by omega) (.int .i64 x);rw[z9,y1] at E;refine E.congr (fun t _ f hf=>?_);have hf0:f=0:=(by omega);have hj0:j=0:=(by omega);subst hf0 hj0 ea ex;by_cases e:t=0<;>simp[A2s,R6,e]);generalize (if j=0 then C else R6 C 0 32767) a=kcv at kc;replace Z:=hd Z;replace b:=hd b;replace ea:=hd ea;replace ex:=hd ex;clear q;go_wp2_with (fail);go_region;go_wp2;exact⟨⟨j+1,by omega,by go_num,by first|exact b.out.setCell (a:=⟨X.bc,a,none⟩) (.inl rfl) _|exact (b.out.setCell (a:=⟨X.bc,a,none⟩) (.inl rfl) _).drew,by first|exact Z.out|exact Z.out.drew⟩,by simp[intOf];omega⟩
      ·have hja:j=A.length:=(by omega);subst hja;rename WD=>wc;rw[if_neg (by omega)] at q;have hC2:∀t,Y2 (R6 C 0 32767 t):=fun t=>by unfold R6;split;(unfold Y2;omega);exact h.out.hC t
       have B:=h.out.ok hX (d:=0) ⟨by omega,by omega⟩;have s:wc.rowIs X.bm 40 8 (A8k X.bx X.bc X.M.nC ov 0 dl sv rv dn0):=(hr.out.of_block (y.out.block _ M)).of_block (b.block _ (by omega) N);have f7:=s.frozen 7;have f4:=s.frozen 4;have f5:=s.frozen 5;have f6:=s.frozen 6;have q7:=s.cell (i:=7) (by omega);have q4:=s.cell (i:=4) (by omega);have q5:=s.cell (i:=5) (by omega);have q6:=s.cell (i:=6) (by omega);have lw2:=s.lt;have hDS:DS (X.at_ w ov 0) 0 (cnC C 0) [] [] ((((wc.setCell ⟨X.bm,7,none⟩ (.int .i64 0)).setCell ⟨X.bm,4,none⟩ (.int .i64 0)).setCell ⟨X.bm,5,none⟩ (.slice none 0 0)).setCell ⟨X.bm,6,none⟩ (.slice none 0 0)):=by
        refine⟨⟨.slice none 0 0,.slice none 0 0,⟨?_,?_,?_⟩,z8 _ _ _ _,z8 _ _ _ _,.inl rfl⟩,hC2,fun x hx=>by cases hx⟩
        ·refine⟨b.os.trans y.out.os,b.tape.trans y.out.tape,b.output.trans y.out.output,?_,fun k U E h2=>?_⟩
         ·have:=y.out.size;show w.heap.size≤_;simp;omega
         ·have U:k<w.heap.size:=U;have E:k≠X.bm:=E;rw[z4 _ _ _ _ E,z4 _ _ _ _ E,z4 _ _ _ _ E,z4 _ _ _ _ E,b.block k (by omega) h2];exact y.out.block k U
        ·refine ((((s.set 7 _).set 4 _).set 5 _).set 6 _).congr (fun t ht=>?_);have:t=0∨t=1∨t=2∨t=3∨t=4∨t=5∨t=6∨t=7:=(by omega);rcases this with rfl|rfl|rfl|rfl|rfl|rfl|rfl|rfl<;>rfl
        ·exact (((q.setOther (Ne.symm N) _).setOther (Ne.symm N) _).setOther (Ne.symm N) _).setOther (Ne.symm N) _
       replace hDS:=hd hDS;replace B:=hd B;clear s b q m c n hv;go_wp2;go_loopg [11] 6 (fun gk i wr4=>∃k:Nat,gk+k=6∧k≤5∧i=.int .i64 k∧DS (X.at_ w ov 0) k (cnC C k) [] (cnS k) wr4);case atStart=>exact⟨0,rfl,by omega,rfl,hDS.out⟩
       case round=>
        obtain⟨k,hgk,hk5,rfl,O⟩:=hrel;have e2:k<X.M.n:=(by rw[F.n];omega);have hn8:=hX.n;obtain⟨sv4,rv4,J,_,_,_⟩:=O.ex;have p0:wr.cell? ⟨X.bm,0,none⟩=some (.pointer (some ⟨X.bx,0,none⟩)):=J.c0;have p4:wr.cell? ⟨X.bm,4,none⟩=some (.int .i64 (k:Int)):=J.c4;have pf:wr.frozen? ⟨X.bm,4,none⟩=false:=J.row.frozen 4;have px:wr.cell? ⟨X.bx,1,none⟩=some (.slice (some ⟨X.bd,0,none⟩) X.M.n X.capD):=(J.img B.out).2;have pc:wr.cell? ⟨X.bd,k*6+1,none⟩=some (.int .i64 (X.M.op k:Int)):=(A0k (J.code B.out) e2).2.1;have l4:X.bm<wr.heap.size:=J.row.lt;have lx4:=z2 _ _ px;have ld4:=z2 _ _ pc;have j0:(0:Int)≤(k:Int)∧(k:Int)<(X.M.n:Int):=(by omega);have r:=O.setDn B.out ((k:Int)+1);have jd:IntKind.i64.wrap ((k:Int)+1)=(k:Int)+1:=IntWalk.i64_in _ (by omega);clear J;replace O:=hd O;by_cases h0:k=5
        ·have h0':X.M.op k=0:=(by rw[h0];exact F.o5);rw[h0'] at pc;obtain⟨sv6,rv6,u,hs6,hr6,ha6⟩:=r.ex;have T:=u.cel;have hk6:=hd (fun h0=>u.kinds B.out h0);have z0:=u.c0;have z1:=u.c1;have zx:=(u.img B.out).1;have hC6:=r.hC;have ho1:T8 X.M.rl (cnC C k) X.M.nC=[-32768]:=(by rw[F.nC,h0];simp[T8,F.r0,F.r1,cnC,R6]);replace u:=hd u;replace r:=hd r;replace h0:=hd h0;replace h0':=hd h0';clear hs6 hr6 ha6;go_wp2_with (fail);refine A5v _ X.bm X.bx X.bc X.M.nC X.capc X.acc X.M.rl X.M.kd (cnC C k) hnC hC6 z0 z1 zx hk6.out T _ ?_;intro v7 w7 K H;rw[ho1] at H;have L:=u.out.below B.out ⟨K.os,K.tape,K.output,K.size,fun k U=>K.block k (z5 U u.out.fr.size)⟩;obtain⟨g7,cp7,rfl,hc7,hg7,hgl7,_,e7⟩:=A2W H (by simp);have k7:w7.cell? ⟨g7,0,none⟩=some (.int .i64 (-32768)):=(by rw[e7 0 (by simp)];rfl);have y2:w7.cell? ⟨X.bm,2,none⟩=some ov:=L.c2;have yf:w7.frozen? ⟨X.bm,2,none⟩=false:=L.row.frozen 2;have l7:X.bm<w7.heap.size:=L.row.lt;have hgb:g7≠X.bm:=Nat.ne_of_gt (z5 u.out.row.lt hg7);replace L:=hd L;clear K z0 z1 zx T H e7;go_wp2;have hfr:B1w X.bm X.bc w.heap.size w (w7.setCell ⟨X.bm,2,none⟩ (.slice (some ⟨g7,0,none⟩) [-32768].length cp7)):=(by have f:=L.out.fr;refine⟨f.os,f.tape,f.output,by rw[y3];exact f.size,fun k U E h2=>?_⟩;rw[z4 _ _ _ _ E];exact f.block k U E h2);refine A6 (fin.out _ g7 cp7 hfr ?_ hc7 ?_) rfl
         ·exact World.cell?_setCell_same _ _ _ (by rw[y2])
         ·exact A1d k7 (Ne.symm hgb)
        ·have hn0:X.M.op k≠0:=by
          have:k=0∨k=1∨k=2∨k=3∨k=4:=(by omega);rcases this with rfl|rfl|rfl|rfl|rfl
          ·rw[F.o0];decide
          ·rw[F.o1];decide
          ·rw[F.o2];decide
          ·rw[F.o3];decide
          ·rw[F.o4];decide
         have tn:((X.M.op k:Int)==0)=false:=(by simp;omega);replace r:=hd r;go_wp2_with (fail);refine B9J B.out F rfl rfl rfl (by omega) r.out _ ?_;intro w7 hw7;replace hw7:=hd hw7;clear O r;go_wp2;go_roundg (gk-1);case measure=>omega
         case rel=>exact⟨k+1,by omega,by omega,by go_num,by have:=hw7.out;simpa using this⟩
theorem B7m (s:BA)(a:Nat):Y2 (s32 s a):=by have:=B1o s a;unfold s32 Y2;split<;>omega
theorem B87 (c:BA)(l:List Nat)(i:Nat):Y2 (nL c l i):=by
 have a:=B7x c (atL l i+1);have b:=N5 c (atL l i+2);unfold nL U1;split
 ·exact B7m _ _
 ·split
  ·unfold Y2;omega
  ·split
   ·unfold Y2;omega
   ·split<;>(unfold Y2;omega)
theorem B7S {s p:Nat→Nat}{z u:Nat→Int}{q m:Nat→Nat}{f n cap v bx:Nat}{k:Nat→Int}{bd:Int}{bm g b a bc capc:Nat}{acc:Option Addr}{c:Nat→Nat}{N To inn:Nat→Int}{e r:Int}{C:Nat→Int}{t:VL}{w:WD}(row:∃B A x,w.rowIs bm 40 8 (A8k g bc f t e B A x r))(h:R8 w bc 3 1 f f (A2s C))(i:Blk w g #[.slice acc f capc,.slice (some ⟨b,0,none⟩) n a,.int .i64 bd] 36)(l:R8 w b 123 6 n a (N0 p s c N To inn))(d:0<f→∃o,acc=some ⟨o,0,none⟩∧R8 w o 111 2 f capc (A1c q m))(y:∀j,Y2 (C j)):DSt ⟨bm,g,b,a,bc,acc,capc,c,N,To,inn,B3j s p z u q m f n cap v bx k bd⟩ e C t r w:=⟨row,h,i,l,d,y⟩
theorem A8U {w:WD}{b T n:Nat}{f:Nat→VL}(h:w.rowIs b T n f):R8 w b T 1 n n (fun i _=>f i):=by obtain⟨c,e,j,d⟩:=h;refine⟨c,e,by rw[j,z9],z7 _,fun i hi g k=>?_⟩;have a:g=0:=(by omega);subst a;rw[z9,y1];exact d i hi
theorem A5n (s:BA):∀(n i f:Nat),i<n→f<2→((List.range n).flatMap (A01 s))[i*2+f]? =some (A1c (fun i=>bt s (7+i)/3) (fun i=>bt s (7+i)%3) i f)
 |0,i,f,hi,_=>by omega
 |n+1,i,f,hi,hf=>by
  have a:((List.range n).flatMap (A01 s)).length=n*2:=by
   clear hi;induction n with
   |zero=>rfl
   |succ n ih=>rw[List.range_succ,y6,List.length_append,ih];simp[A01];omega
  rw[List.range_succ,y6];by_cases e:i<n
  ·rw[List.getElem?_append_left (by rw[a];omega)];exact A5n s n i f e hf
  ·have:i=n:=(by omega);subst this;rw[List.getElem?_append_right (by rw[a];omega),a,show i*2+f-i*2=f by omega];have:f=0∨f=1:=(by omega);rcases this with rfl|rfl<;>rfl
theorem A5O (w:WD)(s:BA)(hs:s.size≤maxLen)(R:RP)(z:(∀bd,¬A1H s bd)→∀w',Below w.heap.size w w'→R (.returned (.tuple #[.pointer none,.int .i64 1])) w')(u:∀bd,A1H s bd→200000<bd→∀w',Below w.heap.size w w'→R (.returned (.tuple #[.pointer none,.int .i64 2])) w')(v:∀bd l,A1H s bd→bd≤200000→U2 (A3 s) ((A3 s).size+1) 0=some l→∀w' ov bm bx b cap bc acc capc To,Below w.heap.size w w'→w.heap.size≤bm→w.heap.size≤bc→(∀i,i<l.length→(Z6 (S7 (A3 s) l i)∨S7 (A3 s) l i=20)→To i=((toL (atL l) (S7 (A3 s) l) (nL (A3 s) l) l.length i:Nat):Int))→(∀capM bsM bxM T,DSt ⟨bm,bx,b,cap,bc,acc,capc,cL (A3 s) l,nL (A3 s) l,To,O8 (S7 (A3 s) l),B3j (S7 (A3 s) l) (atL l) (B6t (A3 s) l) (B7L (A3 s) l) (fun i=>bt s (7+i)/3) (fun i=>bt s (7+i)%3) (bt s 6) l.length capM bsM bxM T bd⟩ 0 (fun _=>0) ov 0 w')→w'.ownsRow (bm+1) 3 1 ov (T8 (fun i=>bt s (7+i)/3) (fun _=>0) (bt s 6)).length (A1m (T8 (fun i=>bt s (7+i)/3) (fun _=>0) (bt s 6)))→bc<bm→R (.returned (.tuple #[.pointer (some ⟨bm,0,none⟩),.int .i64 0])) w'):Calls Tryz.prog 15 #[.string s] w R:=by
 replace z:=hd z;replace u:=hd u;replace v:=hd v;go_enter Tryz.func15,Tryz.ntmps15;go_wp2_with (fail);refine B0O _ s hs _ ?_ ?_ ?_
 ·intro L w1 j;have Q:=hd (z.out L w1 j);clear j L;go_wp2;exact A6 Q.out rfl
 ·intro bd hi J w1 j;have Q:=hd (u.out bd hi J w1 j);clear j hi J;go_wp2;exact A6 Q.out rfl
 ·intro bd l hi Y J w1 bx b cap acc capc To j hbx hbb c;have hg:=hd (v.out bd l hi Y J);have N:=hi.1.2.2.1;have x0:w1.cell? ⟨bx,0,none⟩=some (.slice acc (bt s 6) capc):=c.blk.cell rfl;have lx:=c.blk.lt;replace c:=hd c;replace j:=hd j;clear hi J z u v;have h:0<bt s 6→∃x,acc=some ⟨x,0,none⟩∧R8 w1 x 111 2 (bt s 6) capc (A1c (fun i=>bt s (7+i)/3) (fun i=>bt s (7+i)%3)):=fun O=>by obtain⟨x,cq,e,_,C⟩:=A3W c.out.row O (fun i hi f Q=>A5n s (bt s 6) i f hi Q);injection e with e1 _ e3;subst e1 e3;exact⟨x,rfl,C⟩
  have hmk:=run_make_row' (P:=Tryz.prog) 38 3 (.int .i64 0) 8 A5w A19 rfl .i64 .i64 (bt s 6) (by omega) (by omega);have D:=j.out.size;have lb:=c.out.tab.lt;replace h:=hd h;generalize G:bt s 6=nC at*;generalize S:(fun i=>bt s (7+i)/3)=rl at*;generalize K:(fun i=>bt s (7+i)%3)=kd at*;replace G:=hd G;replace S:=hd S;replace K:=hd K;have n:Blk w1 bx #[.slice acc nC capc,.slice (some ⟨b,0,none⟩) l.length cap,.int .i64 bd] 36:=(by rw[←G.out];exact c.out.blk);have q:=c.out.tab;have U:=hd c.out.to_;have y:Below w1.heap.size w1 ((w1.alloc (Obj.cells (madeCells #[Value.int .i64 0] nC) 3)).alloc (Obj.cells #[.pointer (some ⟨bx,0,none⟩),.slice (some ⟨w1.heap.size,0,none⟩) nC nC,.slice none 0 0,.int .i64 0,.int .i64 0,.slice none 0 0,.slice none 0 0,.int .i64 0] 40)):=
   ((Below.refl _ _).alloc (z7 _) _).alloc (by simp) _
  have d:((w1.alloc (Obj.cells (madeCells #[Value.int .i64 0] nC) 3)).alloc (Obj.cells #[.pointer (some ⟨bx,0,none⟩),.slice (some ⟨w1.heap.size,0,none⟩) nC nC,.slice none 0 0,.int .i64 0,.int .i64 0,.slice none 0 0,.slice none 0 0,.int .i64 0] 40)).rowIs (w1.heap.size+1) 40 8 (A8k bx w1.heap.size nC (.slice none 0 0) 0 0 (.slice none 0 0) (.slice none 0 0) 0):=(by refine⟨_,A9 (by simp),rfl,fun t C=>?_⟩;have:t=0∨t=1∨t=2∨t=3∨t=4∨t=5∨t=6∨t=7:=(by omega);rcases this with rfl|rfl|rfl|rfl|rfl|rfl|rfl|rfl<;>rfl);have m:R8 ((w1.alloc (Obj.cells (madeCells #[Value.int .i64 0] nC) 3)).alloc (Obj.cells #[.pointer (some ⟨bx,0,none⟩),.slice (some ⟨w1.heap.size,0,none⟩) nC nC,.slice none 0 0,.int .i64 0,.int .i64 0,.slice none 0 0,.slice none 0 0,.int .i64 0] 40)) w1.heap.size 3 1 nC nC (A2s (fun _=>0)):=
   (A8U (World.rowIs_made w1 (.int .i64 0) nC 3)).alloc _
  replace c:=hd c;replace q:=hd q;replace n:=hd n;go_wp2_with (fail);generalize (w1.alloc (Obj.cells (madeCells #[Value.int .i64 0] nC) 3)).alloc (Obj.cells #[.pointer (some ⟨bx,0,none⟩),.slice (some ⟨w1.heap.size,0,none⟩) nC nC,.slice none 0 0,.int .i64 0,.int .i64 0,.slice none 0 0,.slice none 0 0,.int .i64 0] 40)=W2 at*;have Z:W2.cell? ⟨w1.heap.size+1,0,none⟩=some (.pointer (some ⟨bx,0,none⟩)):=d.cell (i:=0) (by omega);have c1:W2.cell? ⟨w1.heap.size+1,1,none⟩=some (.slice (some ⟨w1.heap.size,0,none⟩) nC nC):=d.cell (i:=1) (by omega);have x2:W2.cell? ⟨bx,0,none⟩=some (.slice acc nC capc):=(y.cell (p:=⟨bx,0,none⟩) lx).trans x0;have M:0<nC→∃x,acc=some ⟨x,0,none⟩∧R8 W2 x 111 2 nC capc (A1c rl kd):=fun O=>by obtain⟨x,e,C⟩:=h.out O;exact⟨x,e,C.of_block (y.block _ C.lt)⟩
  have E:∀_:Nat,Y2 0:=fun _=>by unfold Y2;omega
  refine A5v _ (w1.heap.size+1) bx w1.heap.size nC capc acc rl kd (fun _=>0) N E Z c1 x2 M m _ ?_;intro v3 w3 B o;obtain⟨H,F,rfl⟩:=V4 o;have g:=d.of_block (B.block _ d.lt);have r:=m.of_block (B.block _ m.lt);have A:Below w1.heap.size w1 w3:=y.trans (B.mono y.size);have l3:=g.lt;have lW:=d.lt;have y2:w3.cell? ⟨w1.heap.size+1,2,none⟩=some (.slice none 0 0):=g.cell (i:=2) (by omega);have yf:=g.frozen 2;replace g:=hd g;replace r:=hd r;replace A:=hd A;replace o:=hd o;clear d m Z c1 x2 M B y;go_wp2;have X:Below w.heap.size w (w3.setCell ⟨w1.heap.size+1,2,none⟩ (.slice H (T8 rl (fun _=>0) nC).length F)):=((j.out.trans (A.out.mono D))).setCell (p:=⟨w1.heap.size+1,2,none⟩) (by show w.heap.size≤w1.heap.size+1;omega) _;have V:=hg.out _ (.slice H (T8 rl (fun _=>0) nC).length F) (w1.heap.size+1) bx b cap w1.heap.size acc capc To X (by omega) D U.out;refine A6 (V ?_ ?_ (by omega)) rfl
  ·intro capM bsM bxM T;have I:∀k,k<w1.heap.size→(w3.setCell ⟨w1.heap.size+1,2,none⟩ (.slice H (T8 rl (fun _=>0) nC).length F)).heap[k]? =w1.heap[k]? :=fun k hk=>by rw[z4 _ _ _ _ (show k≠w1.heap.size+1 by omega)];exact A.out.block k hk
   refine B7S ⟨0,.slice none 0 0,.slice none 0 0,?_⟩ ?_ (n.out.of_block (I _ n.out.lt)) (q.out.of_block (I _ q.out.lt)) (fun O=>?_) E
   ·refine (g.out.set 2 _).congr (fun t C=>?_);have:t=0∨t=1∨t=2∨t=3∨t=4∨t=5∨t=6∨t=7:=(by omega);rcases this with rfl|rfl|rfl|rfl|rfl|rfl|rfl|rfl<;>rfl
   ·exact r.out.setOther (show w1.heap.size≠w1.heap.size+1 by omega) _
   ·obtain⟨x,e,C⟩:=h.out O;exact⟨x,e,C.of_block (I _ C.lt)⟩
  ·exact N3 (B24 o.out (by omega)) (a:=⟨w1.heap.size+1,2,none⟩) (by show w1.heap.size+1<w1.heap.size+1+1;omega) _
end Go.Proofs.YtidhiaaicmfabaaGreatDoor
