/- Texts (its parts, joined). -/
import Derived.Test.YtidhiaaicmfabaaGreatDoorTqBF
import Derived.Test.YtidhiaaicmfabaaGreatDoorTqAV
open Nat renaming le_refl→z0,lt_succ_self→z4,le_trans→z6
open Bool renaming and_eq_true→z2
open Option renaming map_eq_some_iff→z5
namespace Go.Proofs.YtidhiaaicmfabaaGreatDoor
open Go.RowKit Go.Proofs Go.Deep
set_option maxRecDepth 100000
set_option maxHeartbeats 4000000
open World renaming size_alloc→z3
def Prt (p:BA):Prop:=p.size≠0∧((I3 (bt p 0)=true∧∀i,i<p.size→Z3 (bt p i)=true)∨(∀i,i<p.size→I4 (bt p i)=true)∨p=A1j∨(p.size=1∧A7l (bt p 0)=true))
theorem A4p {f:Nat→Bool}{s:BA}:∀(k i:Nat),(∀j,j<i→f (bt s j)=true)→∀j,j<U7 f s k i→f (bt s j)=true
 |0,i,h=>h
 |k+1,i,h=>by
  simp only[U7];split
  ·rename_i e;exact A4p k (i+1) (fun j b=>by
    by_cases a:j<i
    ·exact h j a
    ·have:j=i:=(by omega);subst this;exact e.2)
  ·exact h
theorem A8c (s:BA)(n i:Nat)(hi:i<n)(b:n≤s.size):bt (s.extract 0 n) i=bt s i:=by unfold bt;have a:i<(s.extract 0 n).size:=(by rw[ByteArray.size_extract];omega);rw[dif_pos a,dif_pos (by omega)];simp[ByteArray.getElem_eq_getElem_data,ByteArray.data_extract]
theorem A60 (s:BA)(n:Nat)(a:n≤s.size):(s.extract 0 n).size=n:=by rw[ByteArray.size_extract];omega
theorem A79 {s:BA}(m:0<s.size)(c:A0e (bt s 0)=false)(h:flV s≠0):Prt (s.extract 0 (flV s)):=by
 have a:=A6f m;have k:=A60 s _ a;refine⟨by rw[k];exact h,?_⟩;rw[k,A8c s _ 0 (by omega) a];by_cases b:I3 (bt s 0)=true
 ·refine .inl ⟨b,fun i hi=>?_⟩;rw[A8c s _ i hi a];have e:flV s=U7 Z3 s s.size 0:=(by unfold flV;rw[c,if_pos b];rfl);rw[e] at hi;exact A4p _ _ (fun j l=>by omega) i hi
 ·by_cases f:I4 (bt s 0)=true
  ·refine .inr (.inl (fun i hi=>?_));rw[A8c s _ i hi a];have e:flV s=U7 I4 s s.size 0:=(by unfold flV;rw[c,if_neg b,if_pos f];rfl);rw[e] at hi;exact A4p _ _ (fun j l=>by omega) i hi
  ·by_cases d:hpV s A1j=true
   ·have e:flV s=2:=(by unfold flV;rw[c,if_neg b,if_neg f,if_pos d];rfl);rw[e];simp only[hpV,z2] at d;exact .inr (.inr (.inl (A0u d.2)))
   ·by_cases g:A7l (bt s 0)=true
    ·have e:flV s=1:=(by unfold flV;rw[c,if_neg b,if_neg f,if_neg d,if_pos g];rfl);exact .inr (.inr (.inr ⟨e,g⟩))
    ·exact absurd (by unfold flV;rw[c,if_neg b,if_neg f,if_neg d,if_neg g];rfl) h
theorem A0i:∀(n:Nat) (s:BA) (l:LB),spF n s=some l→∀p∈l,Prt p∧p.size≤s.size
 |0,s,l,h,p,a=>by simp only[spF,Option.some.injEq] at h;subst h;cases a
 |n+1,s,l,h,p,a=>by
  simp only[spF] at h;by_cases g:s.size=0
  ·rw[if_pos g] at h;injection h with h;subst h;cases a
  ·rw[if_neg g] at h;by_cases f:flV s=0
   ·rw[if_pos f] at h;cases h
   ·rw[if_neg f] at h;obtain⟨r,j,e⟩:=z5.1 h;have b:=A6f (s:=s) (by omega);have c:=A0i n _ r j;have i:(s.extract (flV s) s.size).size≤s.size:=(by rw[ByteArray.size_extract];omega);by_cases d:A0e (bt s 0)=true
    ·rw[if_pos d] at e;subst e;exact⟨(c p a).1,z6 (c p a).2 i⟩
    ·rw[if_neg d] at e;subst e;rcases List.mem_cons.1 a with rfl|a
     ·exact⟨A79 (by omega) (by simpa using d) f,by rw[A60 s _ b];exact b⟩
     ·exact⟨(c p a).1,z6 (c p a).2 i⟩
theorem B6j {c:Nat}(h:Z3 c=true):c<128:=by simp only[Z3,I3,I4,Bool.or_eq_true,z2,decide_eq_true_eq,beq_iff_eq] at h;omega
theorem B5O:∀c,c<256→A7l c=true→c<128:=by have h:((List.range 256).all fun c=> !(A7l c)||decide (c<128))=true:=(by kernel_rfl);intro c b a;have:=List.all_eq_true.1 h c (List.mem_range.2 b);rw[a] at this;simpa using this
theorem B8X (s:BA)(i:Nat):bt s i<256:=by have:=N5 s i;omega
theorem Prt.asc {p:BA}(h:Prt p):Asc p:=by
 intro j b f;have a:j<p.size:=(by have:=(List.getElem?_eq_some_iff.1 f).1;simpa using this);have e:b.toNat=bt p j:=(by obtain⟨b',d,c⟩:=A1s p j a;rw[f] at d;injection d with d;rw[c,d]);rw[e];rcases h.2 with ⟨_,c⟩|c|c|⟨c,g⟩
 ·exact B6j (c j a)
 ·have:=c j a;simp only[I4,z2,decide_eq_true_eq] at this;omega
 ·subst c;have:j=0∨j=1:=(by have:j<2:=a;omega);rcases this with rfl|rfl<;>decide
 ·have:j=0:=(by omega);subst this;exact B5O _ (B8X _ _) g
theorem B33 {s:BA}{l:LB}(h:spF s.size s=some l)(b:s.size≤700):A0f l:=fun p a=>⟨(A0i _ _ _ h p a).1.asc,by have:=(A0i _ _ _ h p a).2;omega⟩
def M8 (s:BA):Option (List Vd×Sl):=if s.size≤700 then (spF s.size s).bind (fun L=>(pP L).map (·.1)) else none
theorem B8A (s:BA)(w:WD)(y:∀i v,opC[i]? =some v→w.cell? ⟨4,i,none⟩=some v)(he:Er 0 w)(R:RP)(B:M8 s=none→∀w' (a b c:Option Addr) (n1 c1 n2 c2 n3 c3:Nat),Below w.heap.size w w'→R (.returned (.tuple #[.agg #[.slice a n1 c1,.slice b n2 c2,.slice c n3 c3],.bool false])) w')(q:∀vs body,M8 s=some (vs,body)→∀w' U xs vv uv bv,Below w.heap.size w w'→A5g w.heap.size w' vs U (E0 body) body xs vv uv bv→R (.returned (.tuple #[.agg #[vv,uv,bv],.bool true])) w'):Calls Tryz.prog 41 #[.string s] w R:=by
 have h4:4<w.heap.size:=World.block_lt_of_cell? w ⟨4,0,none⟩ (y 0 _ rfl);by_cases hs:s.size≤700
 ·have t7:decide (700<(s.size:Int))=false:=(by simp;omega);have X:M8 s=(spF s.size s).bind (fun L=>(pP L).map (·.1)):=(by unfold M8;rw[if_pos hs]);rw[X] at B q;replace B:=hd B;replace q:=hd q;go_enter Tryz.func41,Tryz.ntmps41;go_wp2_with (fail);refine A8j _ s (by omega) _ ?_ ?_
  ·intro hn w1 k;have d:=hd (((Below.refl _ w).alloc (z0 _) (Obj.cells #[.slice none 0 0,.slice none 0 0,.slice none 0 0] 87)).trans (k.mono (by simp)));rw[hn] at B;have hz:=k.size;simp at hz;have m:w1.heap[w.heap.size]? =some (.cells #[.slice none 0 0,.slice none 0 0,.slice none 0 0] 87):=(k.block _ (by simp)).trans A2;have a0:=A1 (i:=0) m rfl;have a1:=A1 (i:=1) m rfl;have a2:=A1 (i:=2) m rfl;have fz:=fun i=>B2 (i:=i) m;have hz3:w.heap.size<w1.heap.size:=(by omega);replace k:=hd k;replace m:=hd m;go_wp2;have r:=A4 (i:=2) (A4 (i:=1) (A4 (i:=0) m.out (.slice none 0 0)) (.slice none 0 0)) (.slice none 0 0);have r0:=A1 (i:=0) r rfl;have r1:=A1 (i:=1) r rfl;have r2:=A1 (i:=2) r rfl;exact bodyPost_ret (v:=.tuple #[.agg #[.slice none 0 0,.slice none 0 0,.slice none 0 0],.bool false]) (by simp[results,Tryz.results41,go_sem,r0,r1,r2]) rfl (B.out rfl _ _ _ _ _ _ _ _ _ _ (((d.out.setCell (p:=⟨w.heap.size,0,none⟩) (z0 _) _).setCell (p:=⟨w.heap.size,1,none⟩) (z0 _) _).setCell (p:=⟨w.heap.size,2,none⟩) (z0 _) _))
  ·intro l hl hlm pv w1 k f;rw[hl] at B q;simp only[Option.bind_some] at B q;have hAsc:=B33 hl hs;have m:w1.heap[w.heap.size]? =some (.cells #[.slice none 0 0,.slice none 0 0,.slice none 0 0] 87):=(k.block _ (by simp)).trans A2;have d:Below w.heap.size w w1:=((Below.refl _ w).alloc (z0 _) _).trans (k.mono (by simp));have hz1:=k.size;rw[z3] at hz1;obtain⟨Z,pc,rfl⟩:=A7 f;have S:Ps (w1.heap.size+1) w1.heap.size (.slice Z l.length pc) l 0 ((0:Nat):Int) [] (.slice none 0 0) (w1.alloc (Obj.cells #[.slice Z l.length pc,.int .i64 0,.int .i64 0,.slice none 0 0,.bool false] 142)):=by
    refine⟨⟨R5 A2 rfl (fun i hi=>?_),Nat.zero_le _,hlm,Z,pc,rfl,?_,fun h0=>?_⟩,World.ownsRow_nil _ _ _ _,z4 _,by simp,Nat.zero_le _,fun g cp e=>?_,fun i v hv=>?_,by omega,by omega⟩
    ·have:i=0∨i=1∨i=2∨i=3∨i=4:=(by omega);rcases this with rfl|rfl|rfl|rfl|rfl<;>rfl
    ·rcases f.2 with ⟨I,e2⟩|⟨g,cap,cur,I,hbg,hg,hnc,_⟩
     ·omega
     ·injection I with _ _ e3;omega
    ·rcases f.2 with ⟨I,e2⟩|⟨g,cap,cur,I,hbg,hg,hnc,hcm,hcs,htk⟩
     ·omega
     ·injection I with e3 _ e4;have hgl:g<w1.heap.size:=(Array.getElem?_eq_some_iff.1 hg).1;refine⟨g,e3,by omega,by simp;omega,fun j x hj=>?_⟩;have C:=f.cells (g:=g) (by rw[e3];rfl) j (.string x) (by unfold N6;rw[List.getElem?_map,hj];rfl);have hadd:(⟨g,0,none⟩:Addr).add j=⟨g,j,none⟩:=(by unfold Addr.add;split<;>simp_all);rw[hadd] at C;exact A1a C _
    ·have hgl:=(f.lt g (by rw[e];rfl)).2;omega
    ·exact A1a ((d.cell (p:=⟨4,i,none⟩) h4).trans (y i v hv)) _
   have her:Er w1.heap.size (w1.alloc (Obj.cells #[.slice Z l.length pc,.int .i64 0,.int .i64 0,.slice none 0 0,.bool false] 142)):=(by have I:=(he.below d).below ((Below.refl _ w1).alloc (z0 _) (Obj.cells #[.slice Z l.length pc,.int .i64 0,.int .i64 0,.slice none 0 0,.bool false] 142));exact⟨I.e1,I.e2,by omega,by omega⟩);have hne:w1.heap.size≠w.heap.size:=(by omega);have hlz:w.heap.size<w1.heap.size:=(by omega);replace f:=hd f;go_wp2_with (fail);refine B8s hAsc S her _ ?_;intro w2 G H K E J F N M bc us2 Q t P;have o:w2.heap[w.heap.size]? =some (.cells #[.slice none 0 0,.slice none 0 0,.slice none 0 0] 87):=S.apart ((Below.heap_alloc _ _ _ hlz).trans m) (by decide) hne t;have hz2:=t.size;rw[z3] at hz2;have cb:=Q.c4;have h:Below w.heap.size w w2:=⟨t.os.trans d.os,t.tape.trans d.tape,t.output.trans d.output,z6 d.size (by omega),fun j hj=>((t.block j (by simp;omega) (by omega) (by simp[Value.ownBlock])).trans (Below.heap_alloc _ _ _ (by omega))).trans (d.block j hj)⟩;have Y:∀vs body,(pP l).map (·.1)=some (vs,body)→∃U xs,A5g (w.heap.size+1) w2 vs U (E0 body) body xs (.slice G H K) (.slice E J F) (.slice N M bc):=(by intro vs body e;obtain⟨p,I,e2⟩:=z5.1 e;obtain⟨U,xs,rfl,rfl,D⟩:=P vs body p.2 (by rw[I,←e2]);obtain⟨lo,hlo1,hlo2⟩:=D.body;rw[z3] at hlo1;have h1:=D.vown;have h2:=D.vars;have h3:=D.used;have h4:=D.bown;rw[z3] at h1 h2 h4;exact⟨U,xs,A0J h1 (by omega),h2.low (by omega),A0J h3 (by omega),A0J h4 (by omega),hlo2.wide (by omega) (z0 _)⟩);have u:((pP l).map (·.2)).isNone=((pP l).map (·.1)).isNone:=(by cases pP l<;>rfl);rw[u] at cb;generalize (pP l).map (·.1)=rr at*;have a0:=A1 (i:=0) o rfl;have a1:=A1 (i:=1) o rfl;have a2:=A1 (i:=2) o rfl;have fz:=fun i=>B2 (i:=i) o;have hz3:w.heap.size<w2.heap.size:=(by omega);have hz4:w1.heap.size<w2.heap.size:=(by omega);replace Y:=hd Y;replace h:=hd h;replace o:=hd o;replace u:=hd u;clear Q P t S her d m k y he;generalize T:w.heap.size=z at*;replace T:=hd T;generalize w1.heap.size=z1 at*;obtain⟨bad,O⟩:∃b,b=rr.isNone:=⟨_,rfl⟩;rw[←O] at cb;replace O:=hd O;go_wp2_with (fail);go_region;go_wp2;have r:=A4 (i:=2) (A4 (i:=1) (A4 (i:=0) o.out (.slice G H K)) (.slice E J F)) (.slice N M bc);have r0:=A1a (A1 (i:=0) r rfl) (Obj.cells #[.slice G H K,.slice E J F,.slice N M bc] 87);have r1:=A1a (A1 (i:=1) r rfl) (Obj.cells #[.slice G H K,.slice E J F,.slice N M bc] 87);have r2:=A1a (A1 (i:=2) r rfl) (Obj.cells #[.slice G H K,.slice E J F,.slice N M bc] 87);have hzz':=T.out;subst hzz';have A:=below_drewN ((((h.out.setCell (p:=⟨w.heap.size,0,none⟩) (z0 _) (.slice G H K)).setCell (p:=⟨w.heap.size,1,none⟩) (z0 _) (.slice E J F)).setCell (p:=⟨w.heap.size,2,none⟩) (z0 _) (.slice N M bc)).alloc (by simp;omega) (Obj.cells #[.slice G H K,.slice E J F,.slice N M bc] 87)) 1;refine bodyPost_ret (v:=.tuple #[.agg #[.slice G H K,.slice E J F,.slice N M bc],.bool (!bad)]) ?_ rfl ?_
   ·simp[results,Tryz.results41,go_sem,r0,r1,r2]
   ·rw[O.out];cases V:rr with
    |none=>exact B.out V _ _ _ _ _ _ _ _ _ _ A
    |some p=>
     obtain⟨U,xs,hpg1⟩:=Y.out p.1 p.2 V;have n:=(((hpg1.set (z4 _) 0 (.slice G H K)).set (z4 _) 1 (.slice E J F)).set (z4 _) 2 (.slice N M bc)).keep (below_drewN ((Below.refl _ _).alloc (z0 _) (Obj.cells #[.slice G H K,.slice E J F,.slice N M bc] 87)) 1);exact q.out p.1 p.2 V _ U xs _ _ _ A ⟨A0J n.vown (by omega),n.vars.low (by omega),A0J n.used (by omega),A0J n.bown (by omega),n.body.wide (by omega) (z0 _)⟩
 ·have t7:decide (700<(s.size:Int))=true:=(by simp;omega);have X:M8 s=none:=(by unfold M8;rw[if_neg hs]);replace B:=hd (B X);clear q;go_enter Tryz.func41,Tryz.ntmps41;go_wp2;exact bodyPost_ret (v:=.tuple #[.agg #[.slice none 0 0,.slice none 0 0,.slice none 0 0],.bool false]) (by simp[results,Tryz.results41,go_sem]) rfl (B.out _ _ _ _ _ _ _ _ _ _ ((Below.refl _ w).alloc (z0 _) _))
theorem Q5 (kk:Ex→Int):∀e:Ex,J7 kk e
 |.lit _=>B1l
 |.tru _=>B2k
 |.plc _=>B2d
 |.idx _ i=>B2R (Q5 kk i)
 |.bin _ l r=>B1B (Q5 kk l) (Q5 kk r)
 |.neg e=>B1j (Q5 kk e)
 |.sho e=>B10 (Q5 kk e)
 |.dly _ a s=>B16 (Q5 kk a) (Q5 kk s)
theorem M1 (vs:List Vd)(c:∀v∈vs,0≤v.len∧v.len≤255):∀e:Ex,N9 vs e=true→I7 vs e
 |.lit _,_=>B0q
 |.tru _,_=>B0r
 |.plc s,h=>by
  cases b:C1 vs s with
  |none=>simp only[N9,b] at h;cases h
  |some v=>exact B0Y b
 |.idx s i,h=>by
  simp only[N9,z2] at h;cases b:C1 vs s with
  |none=>rw[b] at h;cases h.1.1
  |some v=>exact B1a b (c v (J0 _ _ _ b).1) (M1 vs c i h.1.2)
 |.bin o l r,h=>by
  simp only[N9,z2] at h;exact B0I (M1 vs c l h.1.1.1) (M1 vs c r h.1.1.2)
 |.neg e,h=>by
  simp only[N9,z2] at h;exact B0K (M1 vs c e h.1)
 |.sho e,h=>by
  simp only[N9,z2] at h;exact B0A (M1 vs c e h.1)
 |.dly t a s,h=>by
  simp only[N9,z2] at h;cases b:C1 vs t with
  |none=>rw[b] at h;cases h.1.1.1.1
  |some v=>exact B0B b (M1 vs c a h.1.1.1.2) (M1 vs c s h.1.2)
end Go.Proofs.YtidhiaaicmfabaaGreatDoor
