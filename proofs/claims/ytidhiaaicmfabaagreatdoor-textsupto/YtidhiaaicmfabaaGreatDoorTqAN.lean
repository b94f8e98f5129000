/- Texts (its parts, joined). -/
import Derived.Test.YtidhiaaicmfabaaGreatDoorTqAM
import Derived.Test.YtidhiaaicmfabaaGreatDoorShelfB
open Array renaming getElem?_eq_some_iff→z0
open List renaming length_append→z1,length_cons→z3,getElem?_eq_getElem→z4,append_assoc→z5,getElem?_eq_some_iff→z8,length_nil→z9,replicate→y1,mem_cons_of_mem→y2,mem_of_mem_take→y3,mem_cons_self→y5,mem_of_getElem?→y8
open Nat renaming le_refl→z2,lt_of_lt_of_le→y0,le_trans→y4
open Bool renaming and_eq_true→z6
namespace Go.Proofs.YtidhiaaicmfabaaGreatDoor
open Go.RowKit Go.Proofs Go.Deep
set_option maxRecDepth 100000
set_option maxHeartbeats 4000000
open Below renaming heap_alloc→z7,heap_setCell→y7
open World renaming size_setCell→y6
mutual
def cS:Q3→Int
 |.set _ e=>1+cE e
 |.setx _ i e=>1+cE i+cE e
 |.ife c t o=>1+cE c+max (C0 t) (C0 o)
 |.cas e ws o=>1+cE e+cN ws+cW ws (C0 o)
 |.loop _ f l b=>1+max 0 (l-f+1)*(1+C0 b)
def C0:Sl→Int
 |.nil=>0
 |.cons h t=>cS h+C0 t
def cN:Wl→Int
 |.nil=>0
 |.cons ns _ t=>ns.length+cN t
def cW:Wl→Int→Int
 |.nil,m=>m
 |.cons _ b t,m=>cW t (max m (C0 b))
end
def A6v:Q3→Nat
 |.set _ _=>311
 |.setx _ _ _=>311
 |.ife _ _ _=>316
 |.cas _ _ _=>320
 |.loop _ _ _ _=>326
theorem A80 {kk:Ex→Int}{s:Q3}{lo hi t:Nat}{w:WD}{u:VL}(h:Z9 kk s lo hi w (.iface t u)):B0X "sluice/sluice.cost" t u (A6v s):=by
 cases s with
 |set n e=>obtain⟨_,h,_⟩:=h;injection h with f g;subst f;exact⟨fun _=>by kernel_rfl,fun _ _=>by kernel_rfl⟩
 |setx n i e=>obtain⟨_,_,_,h,_⟩:=h;injection h with f g;subst f;exact⟨fun _=>by kernel_rfl,fun _ _=>by kernel_rfl⟩
 |ife c a b=>obtain⟨_,_,_,_,_,h,_⟩:=h;injection h with f g;subst f;exact⟨fun _=>by kernel_rfl,fun _ _=>by kernel_rfl⟩
 |cas c a b=>obtain⟨_,_,_,_,_,h,_⟩:=h;injection h with f g;subst f;exact⟨fun _=>by kernel_rfl,fun _ _=>by kernel_rfl⟩
 |loop c a b d=>obtain⟨_,h,_⟩:=h;injection h with f g;subst f;exact⟨fun _=>by kernel_rfl,fun _ _=>by kernel_rfl⟩
def A99 (kk:Ex→Int)(s:Q3):Prop:=∀{lo hi t:Nat}{u:VL}{w:WD},Z9 kk s lo hi w (.iface t u)→hi≤w.heap.size→0≤cS s→cS s≤100000→∀(R:RP),(∀w',Below w.heap.size w w'→R (.returned (.int .i64 (cS s))) w')→Calls Tryz.prog (A6v s) #[u] w R
theorem B0P {kk:Ex→Int}{s:BA}{e:Ex}(B:J7 kk e):A99 kk (.set s e):=by
 intro lo hi t u w H G _ K R d;obtain⟨L,q,g⟩:=H;injection q with F D;subst F D;obtain⟨k,j,rfl⟩:=g.iface;have r:=P5 g;have C:=r.m;have I:=r.c;simp only[A6v];simp only[cS] at d K;have N:=B5 e;have J:=hd (fun (W:WD)=>@B lo hi k j W);obtain⟨Z,l⟩:∃Z,Z=w.alloc (Obj.cells #[.string s,.nilIface,.iface k j] 309):=⟨_,rfl⟩;have f:Below w.heap.size w Z:=(by rw[l];exact (Below.refl _ w).alloc (z2 _) _);have h:E9 kk e lo hi Z (.iface k j):=g.below f G;have b:w.heap.size<Z.heap.size:=(by rw[l];simp);have a:Z.heap[w.heap.size]? =some (.cells #[.string s,.nilIface,.iface k j] 309):=(by rw[l];exact A2);have x:Z.cell? ⟨w.heap.size,0,none⟩=some (.string s):=A1 (i:=0) a rfl;have y:Z.cell? ⟨w.heap.size,1,none⟩=some .nilIface:=A1 (i:=1) a rfl;have A:Z.cell? ⟨w.heap.size,2,none⟩=some (.iface k j):=A1 (i:=2) a rfl;replace d:=hd d;replace h:=hd h;have n:hi≤Z.heap.size:=(by omega);clear B r g;generalize cE e=kl at*;generalize cfn e=FL at*;have v:kl≤100000:=(by omega);have M:IntKind.i64.wrap (1+kl)=1+kl:=IntWalk.i64_in _ (by omega);go_enter Tryz.func311,Tryz.ntmps311;go_wp2_with (fail);rw[←l];replace l:=hd l;replace f:=hd f;replace a:=hd a;generalize o:w.heap.size=z at*;replace o:=hd o;go_region_held3 (fun w'=>w'.cell? ⟨z,0,none⟩=some (.string s)∧w'.cell? ⟨z,1,none⟩=some .nilIface∧w'.cell? ⟨z,2,none⟩=some (.iface k j)) (first|exact⟨(c.out.cell (p:=⟨z,0,none⟩) b).trans x,(c.out.cell (p:=⟨z,1,none⟩) b).trans y,(c.out.cell (p:=⟨z,2,none⟩) b).trans A⟩|exact⟨(m.out.cell (p:=⟨z,0,none⟩) (y0 b c.out.size)).trans ((c.out.cell (p:=⟨z,0,none⟩) b).trans x),(m.out.cell (p:=⟨z,1,none⟩) (y0 b c.out.size)).trans ((c.out.cell (p:=⟨z,1,none⟩) b).trans y),(m.out.cell (p:=⟨z,2,none⟩) (y0 b c.out.size)).trans ((c.out.cell (p:=⟨z,2,none⟩) b).trans A)⟩|go_keep)
  (first
   |(go_at_call 307;refine A3N _ s _ ?_;intro w1 c;replace c:=hd c)
   |(refine J.out _ (by exact h.out.drew.below c.out n) (by exact y4 n c.out.size) v _ ?_;intro E m;replace m:=hd m))
 have hB:=hd (show Below w.heap.size w E from by have e:=o.out;rw[e];exact f.out.trans (((below_drewN (Below.refl _ Z) 1).trans (c.out.trans (m.out.mono c.out.size))).mono (Nat.le_of_lt b)));go_wp2;have e:=o.out;first|exact A6 (d.out _ (by rw[←e];exact hB.out)) rfl|(go_ret;exact A6 (d.out _ (by rw[←e];exact hB.out)) rfl)
theorem G1.at {kk:Ex→Int}{g:Option Nat}{w:WD}{s:Q3}{t:Sl}:∀{done:Sl}{lo hi:Nat}{xs:List VL},G1 kk g (done.app (.cons s t)) lo hi w xs→∃v a b,xs[done.len]? =some v∧lo≤a∧a≤b∧b≤hi∧Z9 kk s a b w v
 |.nil,_,_,_,⟨v,ys,a,b,m,e1,h1,h2,h3,h4,_,h6,_⟩=>⟨v,a,b,by rw[e1];rfl,h1,h2,by omega,h6⟩
 |.cons _ d,_,_,_,⟨v,ys,a,b,m,e1,h1,h2,h3,h4,_,_,h7⟩=>by
  obtain⟨f,j,b',h,k,c,i,e⟩:=G1.at (done:=d) h7;exact⟨f,j,b',by rw[e1];simpa[Sl.len] using h,by omega,c,i,e⟩
theorem G1.below {kk:Ex→Int}{g:Option Nat}{l:Sl}{lo hi:Nat}{w w':WD}{xs:List VL}(h:G1 kk g l lo hi w xs)(a:Below w.heap.size w w')(c:hi≤w.heap.size):G1 kk g l lo hi w' xs:=h.keep (fun b _ _ _ _ d _ _=>a.block b (by omega))
theorem B1n:∀a b:Sl,C0 (a.app b)=C0 a+C0 b
 |.nil,b=>by simp only[Sl.app,C0];omega
 |.cons h t,b=>by simp only[Sl.app,C0,B1n t b];omega
def N4:List Vd→Int
 |[]=>0
 |v::t=>v.len+N4 t
theorem A34:∀a b:List Vd,N4 (a++b)=N4 a+N4 b
 |[],b=>by simp only[List.nil_append,N4];omega
 |v::t,b=>by simp only[List.cons_append,N4,A34 t b];omega
theorem A5V {vs:List Vd}{i:Nat}{v:Vd}(h:vs[i]? =some v):N4 (vs.take (i+1))=N4 (vs.take i)+v.len:=by rw[X9 h,A34];simp only[N4];omega
theorem A0s:∀(vs:List Vd),(∀v∈vs,wtV v=true)→0≤N4 vs∧N4 vs≤16*vs.length
 |[],_=>by simp[N4]
 |v::t,h=>by
  have c:=A0s t (fun u a=>h u (y2 _ a));have b:=h v (y5 ..);simp only[wtV,z6,decide_eq_true_eq] at b;simp only[N4,z3];omega
theorem B3e {lo:Nat}{w:WD}{vs:List Vd}{z:List Nat}{B:Nat→Int}{y F N:Option Addr}{s H K I M:Nat}(m:w.ownsRow lo 144 1 (.slice y vs.length s) vs.length (A3h z))(c:G9 B lo w vs z)(o:∀v∈vs,wtV v=true)(U:vs.length≤1000000)(R:RP)(h:∀w',Below w.heap.size w w'→R (.returned (.int .i64 (N4 vs))) w'):Calls Tryz.prog 44 #[.agg #[.slice y vs.length s,.slice F H K,.slice N I M]] w R:=by
 obtain⟨Z,S,P,X,j⟩:=H5 m;injection P with L _ V;subst L V;obtain⟨r,d⟩:∃r,r=w.alloc (Obj.cells #[.slice y vs.length s,.slice F H K,.slice N I M] 87):=⟨_,rfl⟩;have a:Below w.heap.size w r:=(by rw[d];exact (Below.refl _ w).alloc (z2 _) _);replace d:=hd d;replace h:=hd h;replace j:=hd j;go_enter Tryz.func44,Tryz.ntmps44;go_wp2;go_loopw [3,5,9] (fun Y _ C wr=>∃i:Nat,i≤vs.length∧C=.int .i64 (i:Int)∧Y=.int .i64 (N4 (vs.take i))∧wr=r) (fun _ _ C _=>vs.length-(intOf C).toNat);case atStart=>exact⟨0,Nat.zero_le _,rfl,rfl,by rw[d.out]⟩
 case round=>
  obtain⟨i,hi,rfl,rfl,rfl⟩:=hrel;by_cases n:i<vs.length
  ·have Q:decide ((i:Int)<(vs.length:Int))=true:=(by simp;omega);obtain⟨v,q⟩:∃v,vs[i]? =some v:=⟨_,z4 n⟩;obtain⟨b,D⟩:∃b,z[i]? =some b:=⟨_,z4 (by rw[c.len];exact n)⟩;obtain⟨g,rfl,T,x,G⟩:=j.out (by omega);obtain⟨J,f⟩:=c.row i v b q D;have l:=f.lt;have A:=o v (y8 q);simp only[wtV,z6,decide_eq_true_eq] at A;have c1:wr.cell? ⟨g,i,none⟩=some (.pointer (some ⟨b,0,none⟩)):=(a.cell (p:=⟨g,i,none⟩) x).trans (G i _ (by unfold A3h;rw[List.getElem?_map,D];rfl));have c4:wr.cell? ⟨b,4,none⟩=some (.int .i64 v.len):=(a.cell (p:=⟨b,4,none⟩) l).trans (f.cell (i:=4) (by omega));have j0:(0:Int)≤(i:Int)∧(i:Int)<(vs.length:Int):=(by omega);have e:=A5V q;have t:=A0s (vs.take i) (fun u O=>o u (y3 O));have aa:((vs.take i).length:Int)≤1000000:=(by rw[List.length_take];omega);have L:IntKind.i64.wrap (N4 (vs.take i)+v.len)=N4 (vs.take i)+v.len:=IntWalk.i64_in _ (by omega);generalize N4 (vs.take i)=k at*;replace e:=hd e;clear G f q D t;go_wp2;exact⟨⟨i+1,by omega,by go_num,by rw[e.out],by first|rfl|trivial⟩,by simp[intOf];omega⟩
  ·have Q:decide ((i:Int)<(vs.length:Int))=false:=(by simp;omega);have E:i=vs.length:=(by omega);subst E;rw[List.take_length];replace a:=hd a;go_wp2;exact A6 (h.out _ a.out) rfl
section
def O0 (l:List Int):List VL:=l.map (fun n=>.int .u8 n)
def wrF (bm:Nat)(cv:VL)(sp:Int)(kp:Bool)(i:Nat):VL:=if i=0 then .map (some bm) else if i=1 then cv else if i=2 then .int .u8 sp else .bool kp
structure Wr (B bw bm:Nat)(fst:Nat→Int)(vs:List Vd)(bs:List Nat)(sp:Int)(kp:Bool)(cv:VL)(code:List Int)(w:WD):Prop where
 row:w.rowIs bw 155 4 (wrF bm cv sp kp)
 own:w.ownsRow B 5 1 cv code.length (O0 code)
 lt:bw<B
 le:B≤w.heap.size
 nm:U0 w bm vs.length (M3 vs bs)
 vars:G9 fst 0 w vs bs
 names:∀v∈vs,O9 v.name
 few:code.length≤1000000
section
variable {B bw bm:Nat}{fst:Nat→Int}{vs:List Vd}{bs:List Nat}{sp:Int}{kp:Bool}{cv cv':VL}{code:List Int}{w w':WD}
theorem Wr.obj (h:Wr B bw bm fst vs bs sp kp cv code w)(k:Fu bw cv cv' w w'){b:Nat}{o:Obj}(f:w.heap[b]? =some o)(l:∀cur,o≠.cells cur 155 (0,0))(m:∀cur,o≠.cells cur 5 (0,0)):w'.heap[b]? =some o:=by
 have i:b<w.heap.size:=(z0.1 f).1;refine (k.block b i (fun e=>?_) (fun e=>?_)).trans f
 ·subst e;obtain⟨c,j,_⟩:=h.row;rw[f] at j;injection j with g;exact l c g
 ·rcases h.own.2 with ⟨rfl,_⟩|⟨g',cap,a,rfl,_,d,_⟩
  ·simp[Value.ownBlock] at e
  ·simp only[Value.ownBlock,Option.some.injEq] at e;subst e;rw[f] at d;injection d with g;exact m a g
theorem Wr.tag (h:Wr B bw bm fst vs bs sp kp cv code w)(a:Fu bw cv cv' w w'){b T:Nat}{cur:Array VL}{fz:Nat×Nat}(d:w.heap[b]? =some (.cells cur T fz))(f:T≠155)(g:T≠5):w'.heap[b]? =some (.cells cur T fz):=
 h.obj a d (fun c e=>by injection e with _ e;exact f e) (fun c e=>by injection e with _ e;exact g e)
theorem Wr.nm' (h:Wr B bw bm fst vs bs sp kp cv code w)(a:Fu bw cv cv' w w'):U0 w' bm vs.length (M3 vs bs):=by obtain⟨D,⟨f,c,d,g⟩,b⟩:=h.nm;exact⟨D,⟨f,c,h.obj a d (fun _ e=>by cases e) (fun _ e=>by cases e),g⟩,b⟩
theorem Wr.vars' (h:Wr B bw bm fst vs bs sp kp cv code w)(c:Fu bw cv cv' w w'):G9 fst 0 w' vs bs:=h.vars.keep (fun b cur _ a=>(h.tag c a (by decide) (by decide)).trans a.symm)
theorem Wr.exIn {kk:Ex→Int}{e:Ex}{lo hi:Nat}{v:VL}(h:Wr B bw bm fst vs bs sp kp cv code w)(d:Fu bw cv cv' w w')(c:E9 kk e lo hi w v):E9 kk e lo hi w' v:=c.keep (fun b cur _ _ a=>(h.tag d a (by decide) (by decide)).trans a.symm)
theorem Wr.below (h:Wr B bw bm fst vs bs sp kp cv code w)(a:Below w.heap.size w w'):Wr B bw bm fst vs bs sp kp cv code w':=
 ⟨h.row.of_block (a.block _ h.row.lt),A5 h.own (fun j _ _ c=>a.block j c),h.lt,y4 h.le a.size,h.nm.keep (a.block _ h.nm.lt),h.vars.keep (fun b _ _ d=>a.block b (z0.1 d).1),h.names,h.few⟩
theorem Wr.alloc (h:Wr B bw bm fst vs bs sp kp cv code w)(o:Obj):Wr B bw bm fst vs bs sp kp cv code (w.alloc o):=h.below ((Below.refl _ w).alloc (z2 _) o)
end
theorem A2S:Tryz.prog.underlying 133=some (.slice 5):=by kernel_rfl
theorem A6i:(Tryz.prog.info? 5).map (fun i=>(i.zero,i.size,i.bytes))=some (some (.int .u8 0),1,1):=by kernel_rfl
theorem A7I (l:List Int):∀x∈O0 l,x.oneCell'=true:=by intro x a;unfold O0 at a;obtain⟨n,_,rfl⟩:=List.mem_map.1 a;rfl
theorem N7 {B bw bm:Nat}{fst:Nat→Int}{vs:List Vd}{bs:List Nat}{sp:Int}{kp:Bool}{cv:VL}{code:List Int}{w:WD}(h:Wr B bw bm fst vs bs sp kp cv code w)(ns:List Int)(g m c:Nat)(F:m=ns.length)(D:w.heap[g]? =some (.cells (O0 ns).toArray 5))(t:code.length+ns.length≤1000000)(R:RP)(o:∀w' cv',Wr B bw bm fst vs bs sp kp cv' (code++ns) w'→Fu bw cv cv' w w'→R (.returned (.tuple #[])) w'):Calls Tryz.prog 74 #[.pointer (some ⟨bw,0,none⟩),.slice (some ⟨g,0,none⟩) m c] w R:=by
 subst F;have E:w.cell? ⟨bw,1,none⟩=some cv:=h.row.cell (i:=1) (by omega);have A:=h.row.frozen 1;have y:=h.row.lt;have q:=h.lt;have G:=h.le;have f:some bw≠cv.ownBlock:=fun e=>by have:=(h.own.lt bw e.symm).1;omega
 obtain⟨x,v,rfl⟩:=A7 h.own;have H:=hd h.own;replace f:=hd f;replace o:=hd o;replace h:=hd h;have s:(O0 ns).length=ns.length*1:=(by unfold O0;simp);go_enter Tryz.func74,Tryz.ntmps74;go_wp2_with (first|(at_builtin;refine I5 _ rfl _ _ 133 rfl B 5 _ 1 1 A2S A6i rfl (by decide) _ code.length (O0 code) rfl (by exact H.out) ⟨g,0,none⟩ ns.length c (O0 ns) rfl s (by exact S5 D) (A7I ns) (by unfold maxLen;omega) (by omega) (by omega) ?_;intro J r d b k;obtain⟨j,l,rfl⟩:=A7 d;have K:r.cell? ⟨bw,1,none⟩=some (.slice x code.length v):=A6L b E f.out;have I:r.frozen? ⟨bw,1,none⟩=false:=A6M b A y f.out;replace d:=hd d;replace b:=hd b;replace k:=hd k));go_end0;have z:∀i,i<w.heap.size→(Value.slice x code.length v).ownBlock≠some i→r.heap[i]? =w.heap[i]? :=fun i hi p=>b.out.block i hi (fun e=>p e.symm);have u:w.heap.size≤r.heap.size:=b.out.size;have n:Fu bw (.slice x code.length v) (.slice j (code.length+ns.length) l) w (r.setCell ⟨bw,1,none⟩ (.slice j (code.length+ns.length) l)):=by
  refine⟨b.out.os,b.out.tape,b.out.output,by rw[y6];exact u,fun i hi p C=>?_,?_⟩
  ·rw[y7 _ _ _ _ p];exact z i hi C
  ·rcases k.out with e|⟨e,_⟩
   ·exact .inl e
   ·exact .inr ⟨_,e,z2 _⟩
 refine o.out _ _ ⟨?_,?_,q,by rw[y6];omega,h.out.nm' n,h.out.vars' n,h.out.names,by rw[z1];exact t⟩ n
 ·refine ((h.out.row.of_block (z _ y (fun e=>f.out e.symm))).set 1 _).congr (fun i hi=>?_);have:i=0∨i=1∨i=2∨i=3:=(by omega);rcases this with rfl|rfl|rfl|rfl<;>rfl
 ·have:=ownsRow_setCell_below (a:=⟨bw,1,none⟩) d.out q (.slice j (code.length+ns.length) l);rw[z1];unfold O0 at this ⊢;rw[List.map_append];exact this
end
def B3:List Vd→Int→BA→Int
 |[],_,_=>0
 |v::t,a,s=>if s=v.name then a else B3 t (a+v.len) s
def I6 (vs:List Vd)(i:Nat):Int:=N4 (vs.take i)
theorem S6:∀(vs:List Vd) (f:List Nat) (s:BA) (v:Vd) (a:Int),f.length=vs.length→C1 vs s=some v→∃(i b:Nat),vs[i]? =some v∧f[i]? =some b∧M3 vs f s=some b∧a+N4 (vs.take i)=B3 vs a s
 |[],_,_,_,_,_,h=>by simp[C1] at h
 |_::_,[],_,_,_,h,_=>by simp at h
 |u::vs,b::f,s,v,a,h,d=>by
  simp only[C1] at d;simp only[M3,B3];by_cases e:s=u.name
  ·rw[if_pos e] at d;injection d with d;subst d;exact⟨0,b,rfl,rfl,if_pos e,by rw[if_pos e];simp[N4]⟩
  ·rw[if_neg e] at d;obtain⟨i,c,k,l,j,g⟩:=S6 vs f s v (a+u.len) (by simpa using h) d;refine⟨i+1,c,by simpa using k,by simpa using l,by rw[if_neg e];exact j,?_⟩;rw[if_neg e,←g];simp only[List.take_succ_cons,N4];omega
def K9 (n:Int):List Int:=[1,n/16777216%256,n/65536%256,n/256%256,n%256]
def P9 (vs:List Vd)(s:BA):Int:=match C1 vs s with|some v=>v.len|none=>0
def C4 (vs:List Vd):Ex→List Int
 |.lit n=>K9 n
 |.tru b=>K9 (if b then 1 else 0)
 |.plc s=>[2,B3 vs 0 s]
 |.idx s i=>C4 vs i++[4,B3 vs 0 s,P9 vs s]
 |.bin o l r=>C4 vs l++C4 vs r++[(opI o:Int)]++(if kE vs (.bin o l r)=1 then [16] else [])
 |.neg e=>C4 vs e++[13]
 |.sho e=>C4 vs e++[16]
 |.dly t a s=>C4 vs a++C4 vs s++[21,B3 vs 0 t]
def wfn:Ex→Nat
 |.lit _=>333
 |.tru _=>336
 |.plc _=>309
 |.idx _ _=>309
 |.bin _ _ _=>345
 |.neg _=>339
 |.sho _=>342
 |.dly _ _ _=>348
theorem J1 {kk:Ex→Int}{e:Ex}{lo hi t:Nat}{w:WD}{u:VL}(h:E9 kk e lo hi w (.iface t u)):B0X "sluice/sluice.write" t u (wfn e):=by
 cases e with
 |lit n=>injection h with d f;subst d;exact⟨fun _=>by kernel_rfl,fun _ _=>by kernel_rfl⟩
 |tru n=>injection h with d f;subst d;exact⟨fun _=>by kernel_rfl,fun _ _=>by kernel_rfl⟩
 |plc n=>injection h with d f;subst d;exact⟨fun _=>by kernel_rfl,fun _ _=>by kernel_rfl⟩
 |idx s i=>obtain⟨_,h,_⟩:=h;injection h with d f;subst d;exact⟨fun _=>by kernel_rfl,fun _ _=>by kernel_rfl⟩
 |bin o l r=>obtain⟨_,_,_,h,_⟩:=h;injection h with d f;subst d;exact⟨fun _=>by kernel_rfl,fun _ _=>by kernel_rfl⟩
 |neg e=>obtain⟨_,h,_⟩:=h;injection h with d f;subst d;exact⟨fun _=>by kernel_rfl,fun _ _=>by kernel_rfl⟩
 |sho e=>obtain⟨_,h,_⟩:=h;injection h with d f;subst d;exact⟨fun _=>by kernel_rfl,fun _ _=>by kernel_rfl⟩
 |dly a b c=>obtain⟨_,_,_,h,_⟩:=h;injection h with d f;subst d;exact⟨fun _=>by kernel_rfl,fun _ _=>by kernel_rfl⟩
def I7 (vs:List Vd)(e:Ex):Prop:=∀{B c bm lo hi t:Nat}{d:List Nat}{sp:Int}{g:Bool}{f u:VL}{a:List Int}{w:WD},Wr B c bm (I6 vs) vs d sp g f a w→E9 (kE vs) e lo hi w (.iface t u)→a.length+(C4 vs e).length≤1000000→∀(R:RP),(∀w' b,Wr B c bm (I6 vs) vs d sp g b (a++C4 vs e) w'→Fu c f b w w'→R (.returned (.tuple #[])) w')→Calls Tryz.prog (wfn e) #[u,.pointer (some ⟨c,0,none⟩)] w R
theorem Fu.pre {bp:Nat}{u a:VL}{w w1 w':WD}(c:Below w.heap.size w w1)(b:Fu bp u a w1 w'):Fu bp u a w w':=(Fu.of_below c).trans b
theorem B0Y {vs:List Vd}{s:BA}{v:Vd}(m:C1 vs s=some v):I7 vs (.plc s):=by
 intro B K bm lo hi t x sp Q M u C w h G z R d;injection G with F E;subst F E;obtain⟨i,b,y,f,q,D⟩:=S6 vs x s v 0 h.vars.len m;obtain⟨_,c⟩:=h.vars.row i v b y f;obtain⟨A,k⟩:=J0 vs s v m;have p:s.size≤maxLen:=(by rw[←k];have:=(h.names v A).le;unfold maxLen;omega);have L:w.cell? ⟨K,0,none⟩=some (.map (some bm)):=h.row.cell (i:=0) (by omega);have P:=h.row.lt;have O:w.cell? ⟨b,5,none⟩=some (.int .u8 (B3 vs 0 s)):=(by have:=c.cell (i:=5) (by omega);rw[show vdF v (I6 vs i) 5=.int .u8 (I6 vs i) from rfl] at this;rw[this,show I6 vs i=B3 vs 0 s from by unfold I6;rw[←D];omega]);have I:=c.lt;have o:∀n,(Instr.lookup 90 (.map (some bm)) (.string s) false).run Tryz.prog ((w.alloc (Obj.cells #[.string s,.nilIface] 305)).drewN n)=.ok (.pointer (some ⟨b,0,none⟩)) ((w.alloc (Obj.cells #[.string s,.nilIface] 305)).drewN n):=fun n=>by have l:U0 ((w.alloc (Obj.cells #[.string s,.nilIface] 305)).drewN n) bm vs.length (M3 vs x):=h.nm.keep (z7 _ _ _ h.nm.lt);have o:=l.look s p;rw[q] at o;exact o
 simp only[C4] at d z;replace d:=hd d;replace h:=hd h;replace c:=hd c;clear y f q A k m D;simp only[wfn];generalize B3 vs 0 s=fv at*;go_enter Tryz.func309,Tryz.ntmps309;go_wp2_with (fail);go_quiet (fail);go_wp2_with (fail);have a:Below w.heap.size w ((w.alloc (Obj.cells #[.string s,.nilIface] 305)).drewN nq):=below_drewN ((Below.refl _ w).alloc (z2 _) _) nq;have r:=(h.out.below a).alloc (Obj.cells #[.int .u8 2,.int .u8 fv] 5);have g:(((w.alloc (Obj.cells #[.string s,.nilIface] 305)).drewN nq).alloc (Obj.cells #[.int .u8 2,.int .u8 fv] 5)).heap[w.heap.size+1]? =some (.cells (O0 [2,fv]).toArray 5):=(by have:=A2 (w:=(w.alloc (Obj.cells #[.string s,.nilIface] 305)).drewN nq) (cur:=#[.int .u8 2,.int .u8 fv]) (T:=5) (fz:=(0,0));have e:((w.alloc (Obj.cells #[.string s,.nilIface] 305)).drewN nq).heap.size=w.heap.size+1:=(by show (w.alloc _).heap.size=_;simp);rw[e] at this;exact this);refine N7 r [2,fv] (w.heap.size+1) 2 2 rfl g z _ ?_;intro N H f j;have J:=hd (Fu.pre (a.trans (((Below.refl _ _).alloc (z2 _) _).mono a.size)) j);replace f:=hd f;clear j r g a;go_wp2;go_end0;exact d.out _ _ f.out J.out
theorem B0I {vs:List Vd}{o:Nat}{l r:Ex}(N:I7 vs l)(U:I7 vs r):I7 vs (.bin o l r):=by
 intro B P bm lo hi t Q sp T cv u j w h hx C R c;obtain⟨b,vl,vr,hv,hlo,hhi,A,p,m⟩:=hx;injection hv with e1 e2;subst e1 e2;obtain⟨tl,M,rfl⟩:=p.iface;obtain⟨tr,V,rfl⟩:=m.iface;have G:=J1 p;have E:=J1 m;have Z:=G.m;have ml2:=G.c;have mr1:=E.m;have mr2:=E.c;obtain⟨cur,g,hcs,i⟩:=A;have q0:w.cell? ⟨b,0,none⟩=some (.iface tl M):=A1 g (i 0 (by omega));simp only[C4] at c C;simp only[wfn];have C0:=hd (fun (W:WD)=>@N B P bm lo b tl Q sp T cv M j W);have cR:=hd (fun (CV:VL) (W:WD)=>@U B P bm (b+1) hi tr Q sp T CV V (j++C4 vs l) W);replace c:=hd c;clear N U G E;have J:∃kk,kE vs (.bin o l r)=kk:=⟨_,rfl⟩;obtain⟨kk,K⟩:=J;rw[K] at c C i;simp only[z1,z3,z9] at C;generalize wfn l=FL at*;generalize wfn r=FR at*;go_enter Tryz.func345,Tryz.ntmps345;go_wp2_with (fail);refine C0.out _ h p (by omega) _ ?_;intro w1 cv1 O e;have d:=h.tag e g (by decide) (by decide);have y:=h.exIn e m;have Y:w1.cell? ⟨b,1,none⟩=some (.iface tr V):=A1 d (i 1 (by omega));replace e:=hd e;replace C0:=hd C0;clear q0 g;go_wp2_with (fail);refine cR.out _ _ O y (by rw[z1];omega) _ ?_;intro v cv2 S s;have a:=O.tag s d (by decide) (by decide);have X:v.cell? ⟨b,4,none⟩=some (.int .u8 (opI o:Int)):=A1 a (i 4 (by omega));have x:=e.out.trans s;clear Y d s e;have I:b<v.heap.size:=(z0.1 a).1;go_wp2_with (fail);have f:(v.alloc (Obj.cells #[.int .u8 (opI o:Int)] 5)).heap[v.heap.size]? =some (.cells (O0 [(opI o:Int)]).toArray 5):=A2;refine N7 (S.alloc _) [(opI o:Int)] v.heap.size 1 1 rfl f (by simp only[z1,z3,z9];omega) _ ?_;intro w3 aa D q;have n:=(S.alloc (Obj.cells #[.int .u8 (opI o:Int)] 5)).tag q ((z7 _ _ _ I).trans a) (by decide) (by decide);have q5:w3.cell? ⟨b,5,none⟩=some (.int .u8 kk):=A1 n (i 5 (by omega));have k:=hd (x.trans (Fu.pre ((Below.refl _ v).alloc (z2 _) _) q));clear x q a X f;by_cases F:kk=1
 ·subst F;rw[if_pos rfl] at c C;go_wp2_with (fail);have f:(w3.alloc (Obj.cells #[.int .u8 16] 5)).heap[w3.heap.size]? =some (.cells (O0 [16]).toArray 5):=A2;refine N7 (D.alloc _) [16] w3.heap.size 1 1 rfl f (by simp only[z1,z3,z9] at C ⊢;omega) _ ?_;intro w4 cv4 L z;have H:=hd (k.out.trans (Fu.pre ((Below.refl _ w3).alloc (z2 _) _) z));replace L:=hd L;clear k z f;go_wp2;go_end0;refine c.out _ _ ?_ H.out;have:=L.out;simp only[z5] at this ⊢;exact this
 ·have tk:(kk==1)=false:=(by simpa using F);rw[if_neg F] at c;replace D:=hd D;go_wp2;go_end0;refine c.out _ _ ?_ k.out;have:=D.out;simp only[z5,List.append_nil] at this ⊢;exact this
def A4e:Q3→Nat
 |.set _ _=>312
 |.setx _ _ _=>312
 |.ife _ _ _=>317
 |.cas _ _ _=>321
 |.loop _ _ _ _=>327
theorem A67 {kk:Ex→Int}{s:Q3}{lo hi t:Nat}{w:WD}{u:VL}(h:Z9 kk s lo hi w (.iface t u)):B0X "sluice/sluice.write" t u (A4e s):=by
 cases s with
 |set n e=>obtain⟨_,h,_⟩:=h;injection h with f g;subst f;exact⟨fun _=>by kernel_rfl,fun _ _=>by kernel_rfl⟩
 |setx n i e=>obtain⟨_,_,_,h,_⟩:=h;injection h with f g;subst f;exact⟨fun _=>by kernel_rfl,fun _ _=>by kernel_rfl⟩
 |ife c a b=>obtain⟨_,_,_,_,_,h,_⟩:=h;injection h with f g;subst f;exact⟨fun _=>by kernel_rfl,fun _ _=>by kernel_rfl⟩
 |cas c a b=>obtain⟨_,_,_,_,_,h,_⟩:=h;injection h with f g;subst f;exact⟨fun _=>by kernel_rfl,fun _ _=>by kernel_rfl⟩
 |loop c a b d=>obtain⟨_,h,_⟩:=h;injection h with f g;subst f;exact⟨fun _=>by kernel_rfl,fun _ _=>by kernel_rfl⟩
def A7R (vs:List Vd)(sp:Int)(s:Q3)(f:Nat→List Int)(q:Bool):Prop:=∀{B c bm lo hi t:Nat}{e:List Nat}{d:Bool}{g u:VL}{a:List Int}{w:WD},Wr B c bm (I6 vs) vs e sp d g a w→Z9 (kE vs) s lo hi w (.iface t u)→a.length+(f a.length).length≤1000000→∀(R:RP),(∀w' b,Wr B c bm (I6 vs) vs e sp (d||q) b (a++f a.length) w'→Fu c g b w w'→R (.returned (.tuple #[])) w')→Calls Tryz.prog (A4e s) #[u,.pointer (some ⟨c,0,none⟩)] w R
theorem A8F {vs:List Vd}{sp:Int}{s:BA}{e:Ex}{v:Vd}(V:I7 vs e)(K:C1 vs s=some v):A7R vs sp (.set s e) (fun _=>C4 vs e++[3,B3 vs 0 s]) false:=by
 intro B Y bm lo hi t M kp cv u E w h hx P R k;obtain⟨ve,J,g⟩:=hx;injection J with e1 e2;subst e1 e2;obtain⟨m,l,rfl⟩:=g.iface;have N:=J1 g;have aa:=N.m;have me2:=N.c;simp only[A4e];simp only[Bool.or_false] at k;simp only[z1,z3,z9] at P;obtain⟨i,b,T,H,p,X⟩:=S6 vs M s v 0 h.vars.len K;obtain⟨_,C⟩:=h.vars.row i v b T H;obtain⟨cur,f,Z,Q⟩:=C;obtain⟨U,D⟩:=J0 vs s v K;have O:s.size≤maxLen:=(by rw[←D];have:=(h.names v U).le;unfold maxLen;omega);have c0:w.cell? ⟨Y,0,none⟩=some (.map (some bm)):=h.row.cell (i:=0) (by omega);have lb:=h.row.lt;have S:b<w.heap.size:=(z0.1 f).1;have z:I6 vs i=B3 vs 0 s:=(by unfold I6;rw[←X];omega);have G:∀n,(Instr.lookup 90 (.map (some bm)) (.string s) false).run Tryz.prog ((w.alloc (Obj.cells #[.string s,.nilIface,.iface m l] 309)).drewN n)=.ok (.pointer (some ⟨b,0,none⟩)) ((w.alloc (Obj.cells #[.string s,.nilIface,.iface m l] 309)).drewN n):=fun n=>by have F:U0 ((w.alloc (Obj.cells #[.string s,.nilIface,.iface m l] 309)).drewN n) bm vs.length (M3 vs M):=h.nm.keep (z7 _ _ _ h.nm.lt);have G:=F.look s O;rw[p] at G;exact G
 have cC:=hd (fun (W:WD)=>@V B Y bm lo hi m M sp kp cv l E W);replace k:=hd k;replace h:=hd h;replace g:=hd g;clear V N T H p U D K X;generalize wfn e=FE at*;go_enter Tryz.func312,Tryz.ntmps312;go_wp2_with (fail);go_quiet (fail);have a:Below w.heap.size w ((w.alloc (Obj.cells #[.string s,.nilIface,.iface m l] 309)).drewN nq):=below_drewN ((Below.refl _ w).alloc (z2 _) _) nq;have L:=h.out.below a;have y:E9 (kE vs) e lo hi ((w.alloc (Obj.cells #[.string s,.nilIface,.iface m l] 309)).drewN nq) (.iface m l):=g.out.keep (fun c _ _ _ P=>a.block c (z0.1 P).1);have j:((w.alloc (Obj.cells #[.string s,.nilIface,.iface m l] 309)).drewN nq).heap[b]? =some (.cells cur 147):=(a.block b S).trans f;replace a:=hd a;replace f:=hd f;go_wp2_with (fail);refine cC.out _ L y (by omega) _ ?_;intro q cv2 H o;have d:=L.tag o j (by decide) (by decide);have q5:q.cell? ⟨b,5,none⟩=some (.int .u8 (B3 vs 0 s)):=(by have:=A1 d (Q 5 (by omega));rw[show vdF v (I6 vs i) 5=.int .u8 (I6 vs i) from rfl,z] at this;exact this);have ab:b<q.heap.size:=(z0.1 d).1;have r:=hd (Fu.pre a.out o);clear o L y j G d z;generalize B3 vs 0 s=fv at*;go_wp2_with (fail);have x:(q.alloc (Obj.cells #[.int .u8 3,.int .u8 fv] 5)).heap[q.heap.size]? =some (.cells (O0 [3,fv]).toArray 5):=A2;refine N7 (H.alloc _) [3,fv] q.heap.size 2 2 rfl x (by simp only[z1,z3,z9];omega) _ ?_;intro w3 cv3 p A;have I:=hd (r.out.trans (Fu.pre ((Below.refl _ q).alloc (z2 _) _) A));replace p:=hd p;clear r A x;go_wp2;go_end0;refine k.out _ _ ?_ I.out;have:=p.out;simp only[z5] at this ⊢;exact this
theorem Wr.same {B f bm:Nat}{d:Nat→Int}{vs:List Vd}{k:List Nat}{sp:Int}{j:Bool}{g c:VL}{a:List Int}{w w':WD}(h:Wr B f bm d vs k sp j g a w)(i:Fu f g c w w'){b hi:Nat}(m:b<hi)(l:hi≤f):w'.heap[b]? =w.heap[b]? :=
 i.block b (by have:=h.row.lt;omega) (by omega) (fun e=>by have:=(h.own.lt b e).1;have:=h.lt;omega)
def Z1 (v:Vd):Int:=3*(v.role:Int)+(if v.kind=3 then 2 else (v.kind:Int))
def B8:List Vd→List Int
 |[]=>[]
 |v::t=>y1 v.len.toNat (Z1 v)++B8 t
theorem A37:∀a b:List Vd,B8 (a++b)=B8 a++B8 b
 |[],_=>rfl
 |v::t,b=>by simp only[List.cons_append,B8,A37 t b,z5]
theorem A7K {vs:List Vd}{i:Nat}{v:Vd}(h:vs[i]? =some v):B8 (vs.take (i+1))=B8 (vs.take i)++y1 v.len.toNat (Z1 v):=by rw[X9 h,A37];simp only[B8,List.append_nil]
theorem A0v:∀(vs:List Vd),(∀v∈vs,wtV v=true)→((B8 vs).length:Int)=N4 vs
 |[],_=>rfl
 |v::t,h=>by
  have c:=A0v t (fun u a=>h u (y2 _ a));have b:=h v (y5 ..);simp only[wtV,z6,decide_eq_true_eq] at b;simp only[B8,N4,z1,List.length_replicate];omega
theorem A1M (w:WD)(r k:Int)(d:0≤r∧r≤2)(b:0≤k∧k≤3)(R:RP)(a:R (.returned (.int .u8 (3*r+k))) w):Calls Tryz.prog 75 #[.int .u8 r,.int .u8 k] w R:=by have c:IntKind.u8.wrap (3*r)=3*r:=(by simp[IntKind.wrap,IntKind.signed,IntKind.bits];omega);have e:IntKind.u8.wrap (3*r+k)=3*r+k:=(by simp[IntKind.wrap,IntKind.signed,IntKind.bits];omega);replace a:=hd a;go_enter Tryz.func75,Tryz.ntmps75;go_wp2;exact A6 a.out rfl
theorem A8E (w:WD){b:Nat}{v:Vd}{x:Int}(h:w.rowIs b 147 6 (vdF v x))(k:v.role<3)(g:v.kind≤3)(R:RP)(a:∀n,R (.returned (.int .u8 (Z1 v))) (w.drewN n)):Calls Tryz.prog 136 #[.pointer (some ⟨b,0,none⟩)] w R:=by
 have f:w.cell? ⟨b,1,none⟩=some (.int .u8 (v.role:Int)):=h.cell (i:=1) (by omega);have c:w.cell? ⟨b,2,none⟩=some (.int .u8 (v.kind:Int)):=h.cell (i:=2) (by omega);have d:=h.lt;unfold Z1 at a;by_cases e:v.kind=3
 ·rw[if_pos e] at a;rw[e] at c;replace a:=hd a;replace h:=hd h;go_enter Tryz.func136,Tryz.ntmps136;go_wp2_with (first|(go_at_call 75;refine A1M _ _ _ (by omega) (by omega) _ ?_));exact A6 (a.out 0) rfl
 ·rw[if_neg e] at a;have j:((v.kind:Int)==3)=false:=beq_eq_false_iff_ne.2 (by omega);replace a:=hd a;replace h:=hd h;go_enter Tryz.func136,Tryz.ntmps136;go_wp2_with (fail);go_quiet (first|(go_at_call 75;exact A1M _ _ _ (by omega) (by omega) _ ⟨rfl,_,rfl⟩));go_wp2;exact A6 (a.out _) rfl
structure Vf (lo:Nat)(w w':WD):Prop where
 os:w'.os=w.os
 tape:w'.tape=w.tape
 output:w'.output=w.output
 size:w.heap.size≤w'.heap.size
 block:∀b,b<w.heap.size→(∀cur,w.heap[b]? =some (.cells cur 147 (0,0))→b<lo)→w'.heap[b]? =w.heap[b]?
theorem Vf.trans {lo:Nat}{w w' a:WD}(h:Vf lo w w')(k:Vf lo w' a):Vf lo w a:=
 ⟨k.os.trans h.os,k.tape.trans h.tape,k.output.trans h.output,y4 h.size k.size,fun b c e=>by
  have d:=h.block b c e;exact (k.block b (y0 c h.size) (fun cur f=>e cur (d.symm.trans f))).trans d⟩
theorem Vf.of_below {lo:Nat}{w w':WD}(h:Below w.heap.size w w'):Vf lo w w':=⟨h.os,h.tape,h.output,h.size,fun b a _=>h.block b a⟩
theorem Vf.set {lo:Nat}{w w':WD}(h:Vf lo w w'){b:Nat}{cur:Array VL}(d:w.heap[b]? =some (.cells cur 147 (0,0)))(f:lo≤b)(i:Nat)(v:VL):Vf lo w (w'.setCell ⟨b,i,none⟩ v):=
 ⟨h.os,h.tape,h.output,by rw[y6];exact h.size,fun c g a=>by
  by_cases e:c=b
  ·subst e;have:=a cur d;omega
  ·exact (y7 _ _ _ _ e).trans (h.block c g a)⟩
theorem Vf.tag {lo:Nat}{w w':WD}(h:Vf lo w w'){b T:Nat}{cur:Array VL}{fz:Nat×Nat}(a:w.heap[b]? =some (.cells cur T fz))(f:T≠147):w'.heap[b]? =w.heap[b]? :=
 h.block b (z0.1 a).1 (fun c d=>by
  rw[a] at d;injection d with e;injection e with _ g;exact absurd g f)
theorem B7j {d:List Nat}(h:d.Pairwise (· <·)){i j b c:Nat}(hi:d[i]? =some b)(k:d[j]? =some c)(a:i≠j):b≠c:=by
 obtain⟨f,l⟩:=z8.1 hi;obtain⟨g,m⟩:=z8.1 k;rw[List.pairwise_iff_getElem] at h;rcases Nat.lt_or_gt_of_ne a with e|e
 ·have:=h i j f g e;omega
 ·have:=h j i g f e;omega
theorem G9.setFirst {f a:Nat→Int}{lo:Nat}{w:WD}{vs:List Vd}{g:List Nat}(h:G9 f lo w vs g){i b:Nat}(l:g[i]? =some b)(x:Int)(o:a i=x)(p:∀j,j≠i→a j=f j):G9 a lo (w.setCell ⟨b,5,none⟩ (.int .u8 x)) vs g:=
 ⟨h.len,h.inc,fun j u c n d=>by
  obtain⟨q,m⟩:=h.row j u c n d;refine⟨q,?_⟩;by_cases e:j=i
  ·subst e;rw[l] at d;injection d with d;subst d;rw[o];refine (m.set 5 _).congr (fun k r=>?_);have:k=0∨k=1∨k=2∨k=3∨k=4∨k=5:=(by omega);rcases this with rfl|rfl|rfl|rfl|rfl|rfl<;>rfl
  ·rw[p j e];exact m.of_block (y7 _ _ _ _ (B7j h.inc d l e))⟩
def A25 (vs:List Vd)(i j:Nat):Int:=if j<i then I6 vs j else 0
theorem A8w {n:Int}(b:0≤n)(a:n≤255):IntKind.u8.wrap n=n:=by simp[IntKind.wrap,IntKind.signed,IntKind.bits];omega
theorem A7d {lo:Nat}{w:WD}{vs:List Vd}{M:List Nat}{vo uo bo:Option Addr}{vc n2 c2 n3 c3:Nat}(P:w.ownsRow lo 144 1 (.slice vo vs.length vc) vs.length (A3h M))(A:G9 (fun _=>0) lo w vs M)(hwv:∀v∈vs,wtV v=true∧v.role<3∧v.kind≤3)(hvl:N4 vs≤255)(R:RP)(Z:∀w' cv,Vf lo w w'→G9 (I6 vs) lo w' vs M→w'.ownsRow w.heap.size 5 1 cv (B8 vs).length (O0 (B8 vs))→R (.returned cv) w'):Calls Tryz.prog 72 #[.agg #[.slice vo vs.length vc,.slice uo n2 c2,.slice bo n3 c3]] w R:=by
 obtain⟨vo',vc',e0,hvc,U⟩:=H5 P;injection e0 with z _ e2;subst z e2;have C:∀v∈vs,wtV v=true:=fun v J=>(hwv v J).1;have hvlen:vs.length≤255:=by
  have hall:∀(l:List Vd),(∀v∈l,wtV v=true)→(l.length:Int)≤N4 l:=by
   intro l;induction l with
   |nil=>intro _;simp[N4]
   |cons v t ih=>
    intro h;have h1:=ih (fun u I=>h u (y2 _ I));have h2:=h v (y5 ..);simp only[wtV,z6,decide_eq_true_eq] at h2;simp only[N4,z3];omega
  have:=hall vs C;omega
 obtain⟨W0,G⟩:∃W0,W0=w.alloc (Obj.cells #[.slice vo vs.length vc,.slice uo n2 c2,.slice bo n3 c3] 87):=⟨_,rfl⟩;have D:Below w.heap.size w W0:=(by rw[G];exact (Below.refl _ w).alloc (z2 _) _);have Y:G9 (A25 vs 0) lo W0 vs M:=A.keep (fun b _ _ F=>D.block b (z0.1 F).1);have q:∀g,vo=some ⟨g,0,none⟩→0<vs.length→∃cur,w.heap[g]? =some (.cells cur 144 (0,0)):=fun g hg h0=>by
  rcases P.2 with ⟨z,e2⟩|⟨g',cap,cur,z,_,N,_⟩
  ·omega
  ·injection z with z _ _;rw[hg] at z;injection z with z;injection z with z;subst z;exact⟨cur,N⟩
 replace G:=hd G;replace Z:=hd Z;replace U:=hd U;replace D:=hd D;replace Y:=hd Y;replace q:=hd q;go_enter Tryz.func72,Tryz.ntmps72;go_wp2;go_loopw [3,5,9] (fun cv _ iv wr=>∃i:Nat,i≤vs.length∧iv=.int .i64 (i:Int)∧G9 (A25 vs i) lo wr vs M∧wr.ownsRow w.heap.size 5 1 cv (B8 (vs.take i)).length (O0 (B8 (vs.take i)))∧Vf lo w wr) (fun _ _ iv _=>vs.length-(intOf iv).toNat);case atStart=>exact⟨0,Nat.zero_le _,rfl,by rw[←G.out];exact Y.out,World.ownsRow_nil _ _ _ _,by rw[←G.out];exact Vf.of_below D.out⟩
 case round=>
  obtain⟨i,hi,rfl,s,m,y⟩:=hrel;by_cases hlt:i<vs.length
  ·have td:decide ((i:Int)<(vs.length:Int))=true:=(by simp;omega);obtain⟨v,J⟩:∃v,vs[i]? =some v:=⟨_,z4 hlt⟩;obtain⟨b,V⟩:∃b,M[i]? =some b:=⟨_,z4 (by rw[A.len];exact hlt)⟩;obtain⟨g,rfl,hgl,hgs,hg⟩:=U.out (by omega);obtain⟨gcur,aa⟩:=q.out g rfl (by omega);obtain⟨hblo,E⟩:=s.row i v b J V;have hmem:=y8 J;obtain⟨hw1,hw2,hw3⟩:=hwv v hmem;have hwt:=hw1;simp only[wtV,z6,decide_eq_true_eq] at hwt;have c1:wr.cell? ⟨g,i,none⟩=some (.pointer (some ⟨b,0,none⟩)):=(World.cell?_of_block (w:=w) (a:=⟨g,i,none⟩) (y.tag aa (by decide))).trans (hg i _ (by unfold A3h;rw[List.getElem?_map,V];rfl));have c5:wr.cell? ⟨b,5,none⟩=some (.int .u8 (A25 vs i i)):=E.cell (i:=5) (by omega);have f5:=E.frozen 5;have c4:wr.cell? ⟨b,4,none⟩=some (.int .i64 v.len):=E.cell (i:=4) (by omega);have lb:=E.lt;have j0:(0:Int)≤(i:Int)∧(i:Int)<(vs.length:Int):=(by omega);have O:=A0v (vs.take i) (fun u I=>C u (y3 I));have hbd:=(A0s (vs.take i) (fun u I=>C u (y3 I))).1;have S:=A5V J;have ab:N4 (vs.take (i+1))≤N4 vs:=(by have e:=A34 (vs.take (i+1)) (vs.drop (i+1));rw[List.take_append_drop] at e;have:=(A0s (vs.drop (i+1)) (fun u I=>C u (List.mem_of_mem_drop I))).1;omega);have j1:IntKind.u8.wrap ((B8 (vs.take i)).length:Int)=((B8 (vs.take i)).length:Int):=A8w (by omega) (by omega);obtain⟨ao,cp,rfl⟩:=A7 m;obtain⟨bcur,K⟩:∃cur,w.heap[b]? =some (.cells cur 147 (0,0)):=(by obtain⟨_,c,F,_⟩:=A.row i v b J V;exact⟨c,F⟩);have r:G9 (A25 vs (i+1)) lo (wr.setCell ⟨b,5,none⟩ (.int .u8 ((B8 (vs.take i)).length:Int))) vs M:=s.setFirst V _ (by unfold A25 I6;rw[if_pos (by omega),O]) (fun j hj=>by unfold A25;by_cases h1:j<i;rw[if_pos h1,if_pos (by omega)];rw[if_neg h1,if_neg (by omega)]);have B:(wr.setCell ⟨b,5,none⟩ (.int .u8 ((B8 (vs.take i)).length:Int))).ownsRow w.heap.size 5 1 (.slice ao (B8 (vs.take i)).length cp) (B8 (vs.take i)).length (O0 (B8 (vs.take i))):=ownsRow_setCell_below (a:=⟨b,5,none⟩) m (z0.1 K).1 _;have H:Vf lo w (wr.setCell ⟨b,5,none⟩ (.int .u8 ((B8 (vs.take i)).length:Int))):=y.set K hblo 5 _;have c4':(wr.setCell ⟨b,5,none⟩ (.int .u8 ((B8 (vs.take i)).length:Int))).cell? ⟨b,4,none⟩=some (.int .i64 v.len):=(by rw[World.cell?_setCell_other _ _ _ _ (by simp)];exact c4);have L:=A7K J;generalize B8 (vs.take i)=L0 at*;replace s:=hd s;replace r:=hd r;replace m:=hd m;replace B:=hd B;replace y:=hd y;replace H:=hd H;replace E:=hd E;replace L:=hd L;replace O:=hd O;replace S:=hd S;replace ab:=hd ab;replace K:=hd K;replace aa:=hd aa;replace V:=hd V;replace J:=hd J;clear hg;go_wp2;go_loopw [3,23] (fun cv kv wq=>∃k:Nat,(k:Int)≤v.len∧kv=.int .i64 (k:Int)∧G9 (A25 vs (i+1)) lo wq vs M∧wq.ownsRow w.heap.size 5 1 cv (L0.length+k) (O0 (L0++y1 k (Z1 v)))∧Vf lo w wq) (fun _ kv _=>v.len.toNat-(intOf kv).toNat);case atStart=>exact⟨0,by omega,rfl,r.out,by simpa using B.out,H.out⟩
   case round=>
    obtain⟨k,hk,rfl,p,f,d⟩:=hrel;obtain⟨ao3,cp3,rfl⟩:=A7 f;by_cases hkl:(k:Int)<v.len
    ·have tk:decide ((k:Int)<v.len)=true:=(by simpa using hkl);obtain⟨_,hbr3⟩:=p.row i v b J.out V.out;have hwrs:=d.size;have hbnd:L0.length+k+1≤1000000:=(by have hL:=O.out;have hN:=S.out;have hM:=ab.out;omega);replace p:=hd p;replace d:=hd d;have hr:=hd f;clear f;go_wp2_with (fail);refine A8E _ hbr3 hw2 hw3 _ ?_;intro n;have X:(wr.drewN n).ownsRow w.heap.size 5 1 (.slice ao3 (L0.length+k) cp3) (L0.length+k) (O0 (L0++y1 k (Z1 v))):=hr.out;replace X:=hd X;go_wp2_with (first|(at_builtin;refine I5 _ rfl _ _ 133 rfl w.heap.size 5 _ 1 1 A2S A6i rfl (by decide) (.slice ao3 (L0.length+k) cp3) (L0.length+k) (O0 (L0++y1 k (Z1 v))) rfl (by exact X.out.alloc _) ⟨wr.heap.size,0,none⟩ 1 1 (O0 [Z1 v]) rfl rfl (by exact S5 (A6r rfl)) (A7I [Z1 v]) (by unfold maxLen;omega) (by omega) (by simp;omega) ?_;intro v2 w2 x o hl2;obtain⟨ao2,cp2,rfl⟩:=A7 x;replace x:=hd x;replace o:=hd o;replace hl2:=hd hl2));have hk2:∀(c:Nat) (cur:Array VL) (T:Nat),T≠5→wr.heap[c]? =some (.cells cur T (0,0))→w2.heap[c]? =wr.heap[c]? :=fun c cur T hT F=>by
      have hcl2:c<wr.heap.size:=(z0.1 F).1;refine (o.out.block c (by show c<(wr.alloc _).heap.size;simp;omega) (fun e=>?_)).trans (z7 _ _ _ hcl2);rcases hr.out.2 with ⟨z,_⟩|⟨g',cap,cur',z,_,N,_⟩
      ·rw[z] at e;simp[Value.ownBlock] at e
      ·rw[z] at e;simp only[Value.ownBlock,Option.some.injEq] at e;subst e;rw[F] at N;injection N with e2;injection e2 with _ e3;exact hT e3
     have hva4:=p.out.keep (w':=w2) (fun c cur _ F=>hk2 c cur _ (by decide) F);have hvf4:Vf lo w w2:=⟨o.out.os.trans d.out.os,o.out.tape.trans d.out.tape,o.out.output.trans d.out.output,y4 d.out.size (y4 (by show wr.heap.size≤(wr.alloc _).heap.size;simp) o.out.size),fun c F hp=>by have hcw:c<wr.heap.size:=(by omega);refine ((o.out.block c (by show c<(wr.alloc _).heap.size;simp;omega) (fun e=>?_)).trans (z7 _ _ _ hcw)).trans (d.out.block c F hp);have:=(hr.out.lt c e.symm).1;omega⟩;exact⟨⟨k+1,by omega,by go_num,hva4,by rw[List.replicate_succ',←z5];have:=x.out;unfold O0 at this ⊢;rw[List.map_append];exact this,hvf4⟩,by simp[intOf];omega⟩
    ·have tk:decide ((k:Int)<v.len)=false:=(by simpa using hkl);have hke:k=v.len.toNat:=(by omega);subst hke;rw[←L.out] at f;have Q:(B8 (vs.take (i+1))).length=L0.length+v.len.toNat:=(by rw[L.out];simp);rw[←Q] at f ⊢;replace p:=hd p;replace d:=hd d;replace f:=hd f;clear Q;go_wp2;exact⟨⟨i+1,by omega,by go_num,p.out,f.out,d.out⟩,by simp[intOf];omega⟩
  ·have td:decide ((i:Int)<(vs.length:Int))=false:=(by simp;omega);have hie:i=vs.length:=(by omega);subst hie;rw[List.take_length] at m;obtain⟨ao,cp,rfl⟩:=A7 m;have r:G9 (I6 vs) lo wr vs M:=⟨s.len,s.inc,fun j u c I F=>by have:=s.row j u c I F;have hj:j<vs.length:=(z8.1 I).1;rw[show A25 vs vs.length j=I6 vs j from by unfold A25;rw[if_pos hj]] at this;exact this⟩;replace s:=hd s;replace r:=hd r;replace m:=hd m;replace y:=hd y;go_wp2;exact A6 (Z.out _ _ y.out r.out m.out) rfl
theorem C0D (w:WD):Lib.IsBuilder 160 5 w.heap.size w.heap.size [] (w.alloc (Obj.cells #[.pointer none,.slice none 0 0] 160)):=
 .inl ⟨z2 _,_,A2,World.ownsRow_nil _ _ _ _,by simp[Value.ownBlock]⟩
theorem C0m (B b:Nat)(c:List VL)(s:BA)(w:WD)(h:Lib.IsBuilder 160 5 B b c w)(a:c.length+s.size≤140737488355328)(e:B≤w.heap.size)(R:RP)(d:∀w',Lib.BuilderAt 160 5 B b (.pointer (some ⟨b,0,none⟩)) (c++Lib.strCells s) w'→Below B w w'→R (.returned (.tuple #[.int .i64 s.size,.nilIface])) w'):Calls Tryz.prog 76 #[.pointer (some ⟨b,0,none⟩),.string s] w R:=
 (Any.Builder_WriteString Tryz.bl166 Tryz.Builder_Extra_159 B b c s w h a e).mono (fun _ w' ⟨f,g,i⟩=>f▸d w' g i)
theorem B89 (B b:Nat)(d:List VL)(c:Int)(w:WD)(h:Lib.BuilderAt 160 5 B b (.pointer (some ⟨b,0,none⟩)) d w)(a:d.length+1≤140737488355328)(f:B≤w.heap.size)(R:RP)(e:∀w',Lib.BuilderAt 160 5 B b (.pointer (some ⟨b,0,none⟩)) (d++[.int .u8 c]) w'→Below B w w'→R (.returned .nilIface) w'):Calls Tryz.prog 77 #[.pointer (some ⟨b,0,none⟩),.int .u8 c] w R:=
 (Any.Builder_WriteByte Tryz.bl167 Tryz.Builder_Extra_159 B b d c w (.inr h) a f).mono (fun _ w' ⟨g,i,j⟩=>g▸e w' i j)
theorem B4W (B b:Nat)(l:List UInt8)(w:WD)(h:Lib.BuilderAt 160 5 B b (.pointer (some ⟨b,0,none⟩)) (Lib.byteCells l) w)(c:B≤w.heap.size)(R:RP)(a:∀w',Below B w w'→R (.returned (.string ⟨l.toArray⟩)) w'):Calls Tryz.prog 80 #[.pointer (some ⟨b,0,none⟩)] w R:=
 (Any.Builder_String_any Tryz.bl169 Tryz.Builder_Extra_159 B b l w (.inr h) c).mono (fun _ w' ⟨d,e⟩=>d▸a w' e)
theorem A6j (B b:Nat)(l:List VL)(w:WD)(h:Lib.BuilderAt 160 5 B b (.pointer (some ⟨b,0,none⟩)) l w)(g m c:Nat)(ns:List Int)(S:m=ns.length)(K:∀j u,(O0 ns)[j]? =some u→w.cell? ⟨g,j,none⟩=some u)(L:l.length+m≤1000000)(J:B≤w.heap.size)(R:RP)(q:∀w',Lib.BuilderAt 160 5 B b (.pointer (some ⟨b,0,none⟩)) (l++O0 ns) w'→Below B w w'→R (.returned (.tuple #[.int .i64 m,.nilIface])) w'):Calls Tryz.prog 78 #[.pointer (some ⟨b,0,none⟩),.slice (some ⟨g,0,none⟩) m c] w R:=by
 subst S;have H:=h.cell0;obtain⟨z,v,i,o,I⟩:=h;obtain⟨F,E,rfl⟩:=A7 o;have Q:w.cell? ⟨b,1,none⟩=some (.slice F l.length E):=A1 i rfl;have O:w.frozen? ⟨b,1,none⟩=false:=B2 i;have M:b<w.heap.size:=(z0.1 i).1;have n:some b≠(Value.slice F l.length E).ownBlock:=fun e=>I e.symm;have N:=hd o;have f:∀j u,(O0 ns)[j]? =some u→w.cell? ((⟨g,0,none⟩:Addr).add j)=some u:=fun j u P=>by have D:(⟨g,0,none⟩:Addr).add j=⟨g,j,none⟩:=(by unfold Addr.add;split<;>simp_all);rw[D];exact K j u P
 have t:(O0 ns).length=ns.length*1:=(by unfold O0;simp);replace n:=hd n;replace q:=hd q;replace f:=hd f;clear K;go_enter Tryz.func78,Tryz.ntmps78;go_wp2_with (fail);refine (Any.Builder_copyCheck_used Tryz.bl240 Tryz.Builder_Extra_159.toX72 b w H).mono ?_;rintro e w' ⟨rfl,rfl⟩;go_wp2_with (first|(at_builtin;refine I5 _ rfl _ _ 133 rfl B 5 _ 1 1 A2S A6i rfl (by decide) (.slice F l.length E) l.length l rfl (by exact N.out) ⟨g,0,none⟩ ns.length c (O0 ns) rfl t (by exact f.out) (A7I ns) (by unfold maxLen;omega) (by omega) (by omega) ?_;intro X s d a A;obtain⟨y,C,rfl⟩:=A7 d;have Y:s.cell? ⟨b,1,none⟩=some (.slice F l.length E):=A6L a Q n.out;have V:s.frozen? ⟨b,1,none⟩=false:=A6M a O M n.out;replace d:=hd d;replace a:=hd a;replace A:=hd A));have r:s.heap[b]? =some (.cells #[.pointer (some ⟨b,0,none⟩),.slice F l.length E] 160 (0,0)):=(a.out.block b M n.out).trans i;have G:Lib.BuilderAt 160 5 B b (.pointer (some ⟨b,0,none⟩)) (l++O0 ns) (s.setCell ⟨b,1,none⟩ (.slice y (l.length+ns.length) C)):=(by refine Lib.BuilderAt.put z r ?_ (by decide);have:=d.out;rw[z1];rw[t,Nat.mul_one];exact this);have x:Below B w' (s.setCell ⟨b,1,none⟩ (.slice y (l.length+ns.length) C)):=(by have U:Below B w' s:=(Below.refl B w').grown a.out J (fun k T=>(N.out.lt k T).1);exact U.setCell (p:=⟨b,1,none⟩) z _);exact A6 (q.out _ G x) rfl
def two (n:Nat):List Int:=[(n/256%256:Nat),(n%256:Nat)]
theorem A3B (w:WD)(n:Nat)(d:n<65536)(R:RP)(a:R (.returned (.slice (some ⟨w.heap.size,0,none⟩) 2 2)) (w.alloc (Obj.cells (O0 (two n)).toArray 5))):Calls Tryz.prog 79 #[.int .i64 (n:Int)] w R:=by replace a:=hd a;go_enter Tryz.func79,Tryz.ntmps79;go_wp2;have e:(O0 (two n)).toArray=#[.int .u8 ((n:Int)/256),.int .u8 ((n:Int)%256)]:=(by unfold O0 two;simp only[List.map_cons,List.map_nil];have b:((n/256%256:Nat):Int)=(n:Int)/256:=(by omega);have c:((n%256:Nat):Int)=(n:Int)%256:=(by omega);rw[b,c]);have:=a.out;rw[e] at this;exact A6 this rfl
end Go.Proofs.YtidhiaaicmfabaaGreatDoor
