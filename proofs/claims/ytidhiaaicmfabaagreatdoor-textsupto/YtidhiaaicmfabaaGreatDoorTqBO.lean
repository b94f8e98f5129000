/- Texts (its parts, joined). -/
import Derived.Test.YtidhiaaicmfabaaGreatDoorTqBN
open List renaming length_append→z0
open Bool renaming or_eq_false_iff→z1
open Nat renaming le_refl→z2
namespace Go.Proofs.YtidhiaaicmfabaaGreatDoor
open Go.RowKit Go.Proofs Go.Deep
set_option maxRecDepth 100000
set_option maxHeartbeats 4000000
theorem A7S:Tryz.prog.underlying 169=some (.slice 176):=by kernel_rfl
theorem A1X:(Tryz.prog.info? 176).map (fun i=>(i.zero,i.size,i.bytes))=some (some (.agg #[.int .u8 0,.string ⟨#[]⟩]),2,24):=by kernel_rfl
theorem A3J (a:Int)(s:BA):∀x∈[Value.int .u8 a,Value.string s],x.oneCell'=true:=by intro x b;simp only[List.mem_cons,List.not_mem_nil,or_false] at b;rcases b with rfl|rfl<;>rfl
theorem A0M {acc:LB}{p:BA}{k:Nat}(h:K7 p=k):tkL (acc++[p])=tkL acc++[.int .u8 (k:Int),.string p]:=by unfold tkL;simp[h]
theorem A6A {X Y:Option (LB)}{acc:LB}{p:BA}{Z:Option (LB)}(a:X=Z.map (acc++·))(h:Z=Y.map (fun r=>p::r)):X=Y.map ((acc++[p])++·):=by rw[a,h];cases Y<;>simp
theorem B5X {X Y:Option (LB)}{acc:LB}{p:BA}(a:X=Y.map ((acc++[p])++·))(h:A3Q p=false):X.bind A3U=none:=by
 cases Y with
 |none=>rw[a];rfl
 |some r=>
  rw[a];simp only[Option.map_some,Option.bind_some];cases e:A3U ((acc++[p])++r) with
  |none=>rfl
  |some q=>
   have:=B2j e p (by simp);rw[h] at this;cases this
theorem B4p (s:BA):s.extract 0 s.size=s:=by apply ByteArray.ext;rw[ByteArray.data_extract];exact Array.extract_size
theorem A6R (s:BA)(i e:Nat)(h:i<e)(a:e≤s.size):bt (s.extract i e) 0=bt s i:=by unfold bt;have b:(s.extract i e).size=e-i:=(by rw[ByteArray.size_extract];omega);rw[dif_pos (by omega),dif_pos (by omega)];simp[ByteArray.getElem_eq_getElem_data,ByteArray.data_extract]
theorem A84 {s:BA}{i e:Nat}(a:e≤s.size):(s.extract i e).size=e-i:=by rw[ByteArray.size_extract];omega
theorem A6N {f:Nat→Bool}{s:BA}:∀(k i:Nat),i≤U7 f s k i
 |0,i=>z2 _
 |k+1,i=>by
  simp only[U7];split
  ·have:=A6N (f:=f) (s:=s) k (i+1);omega
  ·exact z2 _
theorem A6Z {f:Nat→Bool}{s:BA}{i:Nat}(h:¬i<s.size):U7 f s (s.size-i) i=i:=by rw[show s.size-i=0 by omega];rfl
theorem B1p {c:Nat}(h:A0e c=true):I3 c=false∧I4 c=false∧(c=32∨c=10):=by simp only[A0e,I3,I4,Bool.or_eq_true,beq_iff_eq,z1,Bool.and_eq_false_iff,decide_eq_false_iff_not] at*;omega
theorem B8x {c:Nat}(h:A0e c=false):c≠32∧c≠10:=by simp only[A0e,z1,beq_eq_false_iff_ne] at h;exact h
theorem B8r {c:Nat}(h:Z3 c=false):I3 c=false∧I4 c=false∧((c:Int) !=95)=true:=by simp only[Z3,z1] at h;refine⟨h.1.1,h.1.2,?_⟩;have:=h.2;rw[beq_eq_false_iff_ne] at this;rw[bne_iff_ne];omega
theorem B74 {c:Nat}(h:Z3 c=true):I3 c=true∨(I3 c=false∧I4 c=true)∨(I3 c=false∧I4 c=false∧((c:Int) !=95)=false):=by
 cases b:I3 c
 ·cases a:I4 c
  ·right;right;simp only[Z3,b,a,Bool.or_self,Bool.false_or,beq_iff_eq] at h;exact⟨rfl,rfl,by simp[h]⟩
  ·exact .inr (.inl ⟨rfl,rfl⟩)
 ·exact .inl rfl
theorem B4N {s:BA}{k:Nat}(b:k+1<s.size)(c:bt s k=58)(a:bt s (k+1)=61):s.extract k (k+2)=A1j:=by have h:=B3C (s:=s) (i:=k) (by omega);rw[c,a,decide_eq_true b] at h;simp only[hpV,beq_self_eq_true,Bool.and_self,Bool.and_eq_true] at h;have:=A0u h.2;rw[ByteArray.extract_extract,show A1j.size=2 from rfl,show min (k+2) s.size=k+2 by omega,Nat.add_zero] at this;exact this
theorem B54 {c:Nat}(h:A3H c=true)(a:¬c=58):c=59∨c=44∨c=91∨c=93∨c=40∨c=41∨c=43∨c=45∨c=42∨c=47∨c=61∨c=60:=by simp only[A3H,Bool.or_eq_true,beq_iff_eq] at h;omega
theorem B69 {c:Nat}(h:A3H c=false):c≠58∧c≠59∧c≠44∧c≠91∧c≠93∧c≠40∧c≠41∧c≠43∧c≠45∧c≠42∧c≠47∧c≠61∧c≠60:=by simp only[A3H,z1,beq_eq_false_iff_ne] at h;simp only[and_assoc] at h;exact h
theorem tkA (s:BA)(hs:s.size≤2000000)(w:WD):TkA s w:=by
 intro R no yes;obtain⟨X,hX⟩:∃X,spF s.size s=X:=⟨_,rfl⟩;rw[hX] at no yes;have hX0:X=(spF s.size (s.extract 0 s.size)).map (([]:LB)++·):=(by rw[B4p,hX];cases X<;>simp);replace hX0:=hd hX0;replace no:=hd no;replace yes:=hd yes;clear hX;go_enter Tryz.func81,Tryz.ntmps81;go_wp2;go_loopw [4,5] (fun ov iv wr=>∃(k f:Nat) (acc:LB),iv=.int .i64 (k:Int)∧k≤s.size∧s.size-k≤f∧acc.length≤k∧wr.ownsRow w.heap.size 176 2 ov acc.length (tkL acc)∧Below w.heap.size w wr∧X=(spF f (s.extract k s.size)).map (acc++·)) (fun _ iv _=>s.size-(intOf iv).toNat);case atStart=>exact⟨0,s.size,[],rfl,Nat.zero_le _,by omega,z2 _,World.ownsRow_nil _ _ _ _,Below.refl _ _,hX0.out⟩
 case round=>
  rename WD=>wo;obtain⟨k,f,acc,rfl,F,hf,hal,d,g,G⟩:=hrel;clear hX0;obtain⟨ao,cp,rfl⟩:=A7 d;by_cases r:k<s.size
  ·have td:decide ((k:Int)<(s.size:Int))=true:=(by simp;omega);have hb:=J4 s k r;have j0:(0:Int)≤(k:Int)∧(k:Int)<(s.size:Int):=(by omega);have jk:IntKind.i64.wrap ((k:Int)+1)=(k:Int)+1:=IntWalk.i64_in _ (by omega);obtain⟨B,rfl⟩:∃B,f=B+1:=⟨f-1,by omega⟩;have x:=g.size;have f32:((bt s k:Int)==32)=decide (bt s k=32):=A0r _ 32;have f10:((bt s k:Int)==10)=decide (bt s k=10):=A0r _ 10;replace d:=hd d;replace g:=hd g;cases C:A0e (bt s k) with
   |true=>
    obtain⟨A,D,h2⟩:=B1p C;have hx2:=hd (G.trans (by rw[B9z (f:=B) r C]));clear G;by_cases c:bt s k=32
    ·rw[decide_eq_true c] at f32;clear f10 c h2;go_wp2_with (first|(go_at_call 138;refine J2 _ _ _ ?_;rw[A])|(go_at_call 139;refine D8 _ _ _ ?_;rw[D]));exact⟨⟨k+1,B,acc,by first|rfl|simp,by omega,by omega,by omega,d.out,g.out,hx2.out⟩,by simp[intOf];omega⟩
    ·rw[decide_eq_false c] at f32;rw[decide_eq_true (by omega)] at f10;clear c h2;go_wp2_with (first|(go_at_call 138;refine J2 _ _ _ ?_;rw[A])|(go_at_call 139;refine D8 _ _ _ ?_;rw[D]));exact⟨⟨k+1,B,acc,by first|rfl|simp,by omega,by omega,by omega,d.out,g.out,hx2.out⟩,by simp[intOf];omega⟩
   |false=>
    obtain⟨n32,n10⟩:=B8x C;rw[decide_eq_false n32] at f32;rw[decide_eq_false n10] at f10;clear n32 n10;cases A:I3 (bt s k) with
    |true=>as_aux_lemma=>
     have D:I4 (bt s k)=false:=by
      cases e:I4 (bt s k) with
      |false=>rfl
      |true=>rw[A9G e] at A;cases A
     have hE:=B9w r A;obtain⟨E,eE⟩:∃E,E=U7 Z3 s (s.size-(k+1)) (k+1):=⟨_,rfl⟩;have hge:k+1≤E:=(by rw[eE];exact A6N _ _);obtain⟨z,o⟩:=A9o (f:=B) (e:=E) r C (by rw[eE];exact hE) (by omega);have m:=A6A G o;have hpz:(s.extract k E).size=E-k:=A84 z;have hp0:0<(s.extract k E).size:=(by omega);have hpL:I3 (bt (s.extract k E) 0)=true:=(by rw[A6R s k E (by omega) z];exact A);obtain⟨Q,hw2⟩:=B31 hp0 hpL;have O:=hd (fun h=>B5X m (hw2 h));replace Q:=hd Q;replace m:=hd m;have eE':=hd eE.symm;clear G o hE eE hw2 hpL;go_wp2_with (first|(go_at_call 138;refine J2 _ _ _ ?_;rw[A])|(go_at_call 139;refine D8 _ _ _ ?_;rw[D]));go_loopw [5] (fun iv w2=>∃j:Nat,k+1≤j∧j≤s.size∧iv=.int .i64 (j:Int)∧wo=w2∧U7 Z3 s (s.size-j) j=E) (fun iv _=>s.size-(intOf iv).toNat);case atStart=>exact⟨k+1,z2 _,by omega,by first|rfl|simp,rfl,eE'.out⟩
     case round=>
      clear hb td j0 jk f32 f10 A D;obtain⟨j,hj1,hj2,rfl,e,i⟩:=hrel;subst e;have l:(¬j<s.size∨(j<s.size∧Z3 (bt s j)=false))∨(j<s.size∧Z3 (bt s j)=true):=by
       by_cases c:j<s.size
       ·cases Z3 (bt s j)
        ·exact .inl (.inr ⟨c,rfl⟩)
        ·exact .inr ⟨c,rfl⟩
       ·exact .inl (.inl c)
      rcases l with l|⟨U,n⟩
      ·have hj:j=E:=by
        rcases l with c|⟨_,c⟩
        ·rw[←i,A6Z c]
        ·rw[←i,A52 c]
       subst hj;replace i:=hd i;have jr:(0:Int)≤(k:Int)∧(k:Int)≤(j:Int)∧(j:Int)≤(s.size:Int):=(by omega);rcases l with c|⟨c,n⟩
       ·have td:decide ((j:Int)<(s.size:Int))=false:=(by simp;omega);go_wp2_with (fail);refine A7x _ (s.extract k j) (by omega) _ ?_;intro w2 p;have t:=hd (A0l d.out p);have u:=hd (g.out.trans (p.mono x));have hwr2:w.heap.size≤w2.heap.size:=Nat.le_trans x p.size;replace p:=hd p;obtain⟨K,hK⟩:∃K,K=wkV (s.extract k j):=⟨_,rfl⟩;rw[←hK] at O Q;rw[←hK];replace hK:=hd hK;by_cases hz:K=0
        ·have tz:((K:Int)==0)=true:=(by simp[hz]);have fin:=hd (no.out (O.out hz) _ u.out);clear hz;go_wp2;exact A6 fin.out rfl
        ·have tz:((K:Int)==0)=false:=beq_eq_false_iff_ne.2 (by omega);have y:=hd (Q.out hz);clear hz;go_wp2_with (first|(at_builtin;refine C3 _ rfl _ _ 169 rfl w.heap.size 176 _ 2 24 A7S A1X rfl (by decide) _ _ _ rfl (by exact t.out.alloc _) _ 1 1 [.int .u8 (K:Int),.string (s.extract k j)] rfl (by exact A9 (by simp)) rfl (A3J _ _) (by unfold maxLen;omega) (by omega) (by simp;omega) ?_;intro v1 w1 a b;obtain⟨N,L,rfl⟩:=A7 a;replace a:=hd a;replace b:=hd b));refine⟨⟨j,B,acc++[s.extract k j],rfl,by omega,by omega,by simp;omega,?_,?_,m.out⟩,by simp[intOf];omega⟩
         ·rw[z0,A0M y.out];exact a.out
         ·exact (u.out.alloc hwr2 _).grown b.out (by simp;omega) (fun k F=>(t.out.lt k F).1)
       ·have td:decide ((j:Int)<(s.size:Int))=true:=(by simp;omega);have hbj:=J4 s j c;have j1:(0:Int)≤(j:Int)∧(j:Int)<(s.size:Int):=(by omega);obtain⟨M,H,n95⟩:=B8r n;clear n;go_wp2_with (first|(go_at_call 138;refine J2 _ _ _ ?_;rw[M])|(go_at_call 139;refine D8 _ _ _ ?_;rw[H]));refine A7x _ (s.extract k j) (by omega) _ ?_;intro w2 p;have t:=hd (A0l d.out p);have u:=hd (g.out.trans (p.mono x));have hwr2:w.heap.size≤w2.heap.size:=Nat.le_trans x p.size;replace p:=hd p;obtain⟨K,hK⟩:∃K,K=wkV (s.extract k j):=⟨_,rfl⟩;rw[←hK] at O Q;rw[←hK];replace hK:=hd hK;by_cases hz:K=0
        ·have tz:((K:Int)==0)=true:=(by simp[hz]);have fin:=hd (no.out (O.out hz) _ u.out);clear hz;go_wp2;exact A6 fin.out rfl
        ·have tz:((K:Int)==0)=false:=beq_eq_false_iff_ne.2 (by omega);have y:=hd (Q.out hz);clear hz;go_wp2_with (first|(at_builtin;refine C3 _ rfl _ _ 169 rfl w.heap.size 176 _ 2 24 A7S A1X rfl (by decide) _ _ _ rfl (by exact t.out.alloc _) _ 1 1 [.int .u8 (K:Int),.string (s.extract k j)] rfl (by exact A9 (by simp)) rfl (A3J _ _) (by unfold maxLen;omega) (by omega) (by simp;omega) ?_;intro v1 w1 a b;obtain⟨N,L,rfl⟩:=A7 a;replace a:=hd a;replace b:=hd b));refine⟨⟨j,B,acc++[s.extract k j],rfl,by omega,by omega,by simp;omega,?_,?_,m.out⟩,by simp[intOf];omega⟩
         ·rw[z0,A0M y.out];exact a.out
         ·exact (u.out.alloc hwr2 _).grown b.out (by simp;omega) (fun k F=>(t.out.lt k F).1)
      ·have hbj:=J4 s j U;have j1:(0:Int)≤(j:Int)∧(j:Int)<(s.size:Int):=(by omega);have td:decide ((j:Int)<(s.size:Int))=true:=(by simp;omega);have V:=hd ((A22 U n).symm.trans i);replace i:=hd i;rcases B74 n with M|⟨M,H⟩|⟨M,H,n95⟩
       ·obtain⟨q,H⟩:∃q,I4 (bt s j)=q:=⟨_,rfl⟩;clear n;go_wp2_with (first|(go_at_call 138;refine J2 _ _ _ ?_;rw[M])|(go_at_call 139;refine D8 _ _ _ ?_;rw[H]));exact⟨⟨j+1,by omega,by omega,by go_num,by first|rfl|trivial,V.out⟩,by simp[intOf];omega⟩
       ·clear n;go_wp2_with (first|(go_at_call 138;refine J2 _ _ _ ?_;rw[M])|(go_at_call 139;refine D8 _ _ _ ?_;rw[H]));exact⟨⟨j+1,by omega,by omega,by go_num,by first|rfl|trivial,V.out⟩,by simp[intOf];omega⟩
       ·clear n;go_wp2_with (first|(go_at_call 138;refine J2 _ _ _ ?_;rw[M])|(go_at_call 139;refine D8 _ _ _ ?_;rw[H]));exact⟨⟨j+1,by omega,by omega,by go_num,by first|rfl|trivial,V.out⟩,by simp[intOf];omega⟩
    |false=>
     cases D:I4 (bt s k) with
     |true=>as_aux_lemma=>
      have hE:=B8B r D;obtain⟨E,eE⟩:∃E,E=U7 I4 s (s.size-(k+1)) (k+1):=⟨_,rfl⟩;have hge:k+1≤E:=(by rw[eE];exact A6N _ _);obtain⟨z,o⟩:=A9o (f:=B) (e:=E) r C (by rw[eE];exact hE) (by omega);have m:=hd (A6A G o);have hpz:(s.extract k E).size=E-k:=A84 z;have y:=hd (B7J (s:=s.extract k E) (by omega) (by rw[A6R s k E (by omega) z];exact D));have eE':=hd eE.symm;clear G o hE eE;go_wp2_with (first|(go_at_call 138;refine J2 _ _ _ ?_;rw[A])|(go_at_call 139;refine D8 _ _ _ ?_;rw[D]));go_loopw [5] (fun iv w2=>∃j:Nat,k+1≤j∧j≤s.size∧iv=.int .i64 (j:Int)∧wo=w2∧U7 I4 s (s.size-j) j=E) (fun iv _=>s.size-(intOf iv).toNat);case atStart=>exact⟨k+1,z2 _,by omega,by first|rfl|simp,rfl,eE'.out⟩
      case round=>
       clear hb td j0 jk f32 f10 A D;obtain⟨j,hj1,hj2,rfl,e,i⟩:=hrel;subst e;have l:(¬j<s.size∨(j<s.size∧I4 (bt s j)=false))∨(j<s.size∧I4 (bt s j)=true):=by
        by_cases c:j<s.size
        ·cases I4 (bt s j)
         ·exact .inl (.inr ⟨c,rfl⟩)
         ·exact .inr ⟨c,rfl⟩
        ·exact .inl (.inl c)
       rcases l with l|⟨U,n⟩
       ·have hj:j=E:=by
         rcases l with c|⟨_,c⟩
         ·rw[←i,A6Z c]
         ·rw[←i,A52 c]
        subst hj;replace i:=hd i;have jr:(0:Int)≤(k:Int)∧(k:Int)≤(j:Int)∧(j:Int)≤(s.size:Int):=(by omega);rcases l with c|⟨c,n⟩
        ·have td:decide ((j:Int)<(s.size:Int))=false:=(by simp;omega);go_wp2_with (first|(at_builtin;refine C3 _ rfl _ _ 169 rfl w.heap.size 176 _ 2 24 A7S A1X rfl (by decide) _ _ _ rfl (by exact d.out.alloc _) _ 1 1 [.int .u8 100,.string (s.extract k j)] rfl (by exact A9 (by simp)) rfl (A3J _ _) (by unfold maxLen;omega) (by omega) (by simp;omega) ?_;intro v1 w1 a b;obtain⟨N,L,rfl⟩:=A7 a;replace a:=hd a;replace b:=hd b));refine⟨⟨j,B,acc++[s.extract k j],rfl,by omega,by omega,by simp;omega,?_,?_,m.out⟩,by simp[intOf];omega⟩
         ·rw[z0,A0M y.out];exact a.out
         ·exact (g.out.alloc x _).grown b.out (by simp;omega) (fun k F=>(d.out.lt k F).1)
        ·have td:decide ((j:Int)<(s.size:Int))=true:=(by simp;omega);have hbj:=J4 s j c;have j1:(0:Int)≤(j:Int)∧(j:Int)<(s.size:Int):=(by omega);go_wp2_with (first|(go_at_call 139;refine D8 _ _ _ ?_;rw[n])|(at_builtin;refine C3 _ rfl _ _ 169 rfl w.heap.size 176 _ 2 24 A7S A1X rfl (by decide) _ _ _ rfl (by exact d.out.alloc _) _ 1 1 [.int .u8 100,.string (s.extract k j)] rfl (by exact A9 (by simp)) rfl (A3J _ _) (by unfold maxLen;omega) (by omega) (by simp;omega) ?_;intro v1 w1 a b;obtain⟨N,L,rfl⟩:=A7 a;replace a:=hd a;replace b:=hd b));refine⟨⟨j,B,acc++[s.extract k j],rfl,by omega,by omega,by simp;omega,?_,?_,m.out⟩,by simp[intOf];omega⟩
         ·rw[z0,A0M y.out];exact a.out
         ·exact (g.out.alloc x _).grown b.out (by simp;omega) (fun k F=>(d.out.lt k F).1)
       ·have hbj:=J4 s j U;have j1:(0:Int)≤(j:Int)∧(j:Int)<(s.size:Int):=(by omega);have td:decide ((j:Int)<(s.size:Int))=true:=(by simp;omega);have V:=hd ((A22 U n).symm.trans i);replace i:=hd i;go_wp2_with (first|(go_at_call 139;refine D8 _ _ _ ?_;rw[n]));exact⟨⟨j+1,by omega,by omega,by go_num,by first|rfl|trivial,V.out⟩,by simp[intOf];omega⟩
     |false=>
      have v:=B9o r C A D;have f58:((bt s k:Int)==58)=decide (bt s k=58):=A0r _ 58;have T:((bt s k:Int)==59)=decide (bt s k=59):=A0r _ 59;have f44:((bt s k:Int)==44)=decide (bt s k=44):=A0r _ 44;have f91:((bt s k:Int)==91)=decide (bt s k=91):=A0r _ 91;have Y:((bt s k:Int)==93)=decide (bt s k=93):=A0r _ 93;have aa:((bt s k:Int)==40)=decide (bt s k=40):=A0r _ 40;have f41:((bt s k:Int)==41)=decide (bt s k=41):=A0r _ 41;have f43:((bt s k:Int)==43)=decide (bt s k=43):=A0r _ 43;have S:((bt s k:Int)==45)=decide (bt s k=45):=A0r _ 45;have f42:((bt s k:Int)==42)=decide (bt s k=42):=A0r _ 42;have f47:((bt s k:Int)==47)=decide (bt s k=47):=A0r _ 47;have Z:((bt s k:Int)==61)=decide (bt s k=61):=A0r _ 61;have ab:((bt s k:Int)==60)=decide (bt s k=60):=A0r _ 60;by_cases P:k+1<s.size∧bt s k=58∧bt s (k+1)=61
      ·as_aux_lemma=>
        rw[if_pos P] at v;obtain⟨z,o⟩:=A9o (f:=B) (e:=k+2) r C (by rw[v]) (by omega);rw[B4N P.1 P.2.1 P.2.2] at o;have m:=hd (A6A G o);rw[decide_eq_true P.2.1] at f58;have tn:decide ((k:Int)+1<(s.size:Int))=true:=(by simp;omega);have hk1:=P.1;have hb1:=(J4 s (k+1) hk1).trans P.2.2;have j2:(0:Int)≤(k:Int)+1∧(k:Int)+1<(s.size:Int):=(by omega);have jk2:IntKind.i64.wrap ((k:Int)+1+1)=(k:Int)+2:=(by rw[IntWalk.i64_in _ (by omega)];omega);have jt:((k:Int)+1).toNat=k+1:=(by omega);clear P G v o T f44 f91 Y aa f41 f43 S f42 f47 Z ab;go_wp2_with (first|(go_at_call 138;refine J2 _ _ _ ?_;rw[A])|(go_at_call 139;refine D8 _ _ _ ?_;rw[D])|(at_builtin;refine C3 _ rfl _ _ 169 rfl w.heap.size 176 _ 2 24 A7S A1X rfl (by decide) _ _ _ rfl (by exact d.out.alloc _) _ 1 1 [.int .u8 115,.string A1j] rfl (by exact A9 (by simp)) rfl (A3J _ _) (by unfold maxLen;omega) (by omega) (by simp;omega) ?_;intro v1 w1 a b;obtain⟨N,L,rfl⟩:=A7 a;replace a:=hd a;replace b:=hd b));refine⟨⟨k+2,B,acc++[A1j],by first|rfl|go_num,by omega,by omega,by simp;omega,?_,?_,m.out⟩,by simp[intOf];omega⟩
        ·rw[z0,A0M B7h];exact a.out
        ·exact (g.out.alloc x _).grown b.out (by simp;omega) (fun k F=>(d.out.lt k F).1)
      ·rw[if_neg P] at v;cases J:A3H (bt s k) with
       |true=>
        rw[J,if_pos rfl] at v;obtain⟨z,o⟩:=A9o (f:=B) (e:=k+1) r C (by rw[v]) (by omega);have m:=hd (A6A G o);have y:=hd (B9q (s:=s.extract k (k+1)) (by rw[A84 z];omega) (by rw[A6R s k (k+1) (by omega) z];exact A) (by rw[A6R s k (k+1) (by omega) z];exact D));have jr:(0:Int)≤(k:Int)∧(k:Int)≤(k:Int)+1∧(k:Int)+1≤(s.size:Int):=(by omega);have jt:((k:Int)+1).toNat=k+1:=(by omega);clear G v o;by_cases I:bt s k=58
        ·rw[decide_eq_true I] at f58;clear T f44 f91 Y aa f41 f43 S f42 f47 Z ab J;by_cases hk1:k+1<s.size
         ·have tn:decide ((k:Int)+1<(s.size:Int))=true:=(by simp;omega);have hb1:=J4 s (k+1) hk1;have n61:((bt s (k+1):Int)==61)=false:=(by have:=A0r (bt s (k+1)) 61;rw[decide_eq_false (fun e=>P ⟨hk1,I,e⟩)] at this;exact this);have j2:(0:Int)≤(k:Int)+1∧(k:Int)+1<(s.size:Int):=(by omega);clear P I;go_wp2_with (first|(go_at_call 138;refine J2 _ _ _ ?_;rw[A])|(go_at_call 139;refine D8 _ _ _ ?_;rw[D])|(at_builtin;refine C3 _ rfl _ _ 169 rfl w.heap.size 176 _ 2 24 A7S A1X rfl (by decide) _ _ _ rfl (by exact d.out.alloc _) _ 1 1 [.int .u8 115,.string (s.extract k (k+1))] rfl (by exact A9 (by simp)) rfl (A3J _ _) (by unfold maxLen;omega) (by omega) (by simp;omega) ?_;intro v1 w1 a b;obtain⟨N,L,rfl⟩:=A7 a;replace a:=hd a;replace b:=hd b));refine⟨⟨k+1,B,acc++[s.extract k (k+1)],by first|rfl|go_num,by omega,by omega,by simp;omega,?_,?_,m.out⟩,by simp[intOf];omega⟩
          ·rw[z0,A0M y.out];exact a.out
          ·exact (g.out.alloc x _).grown b.out (by simp;omega) (fun k F=>(d.out.lt k F).1)
         ·have tn:decide ((k:Int)+1<(s.size:Int))=false:=(by simp;omega);clear P I;go_wp2_with (first|(go_at_call 138;refine J2 _ _ _ ?_;rw[A])|(go_at_call 139;refine D8 _ _ _ ?_;rw[D])|(at_builtin;refine C3 _ rfl _ _ 169 rfl w.heap.size 176 _ 2 24 A7S A1X rfl (by decide) _ _ _ rfl (by exact d.out.alloc _) _ 1 1 [.int .u8 115,.string (s.extract k (k+1))] rfl (by exact A9 (by simp)) rfl (A3J _ _) (by unfold maxLen;omega) (by omega) (by simp;omega) ?_;intro v1 w1 a b;obtain⟨N,L,rfl⟩:=A7 a;replace a:=hd a;replace b:=hd b));refine⟨⟨k+1,B,acc++[s.extract k (k+1)],by first|rfl|go_num,by omega,by omega,by simp;omega,?_,?_,m.out⟩,by simp[intOf];omega⟩
          ·rw[z0,A0M y.out];exact a.out
          ·exact (g.out.alloc x _).grown b.out (by simp;omega) (fun k F=>(d.out.lt k F).1)
        ·rw[decide_eq_false I] at f58;have hor:bt s k=59∨bt s k=44∨bt s k=91∨bt s k=93∨bt s k=40∨bt s k=41∨bt s k=43∨bt s k=45∨bt s k=42∨bt s k=47∨bt s k=61∨bt s k=60:=B54 J I;clear P J;rcases hor with c|c|c|c|c|c|c|c|c|c|c|c;all_goals as_aux_lemma=>
          first|rw[decide_eq_true (show bt s k=59 from c)] at T|rw[decide_eq_false (show ¬bt s k=59 by omega)] at T
          first|rw[decide_eq_true (show bt s k=44 from c)] at f44|rw[decide_eq_false (show ¬bt s k=44 by omega)] at f44
          first|rw[decide_eq_true (show bt s k=91 from c)] at f91|rw[decide_eq_false (show ¬bt s k=91 by omega)] at f91
          first|rw[decide_eq_true (show bt s k=93 from c)] at Y|rw[decide_eq_false (show ¬bt s k=93 by omega)] at Y
          first|rw[decide_eq_true (show bt s k=40 from c)] at aa|rw[decide_eq_false (show ¬bt s k=40 by omega)] at aa
          first|rw[decide_eq_true (show bt s k=41 from c)] at f41|rw[decide_eq_false (show ¬bt s k=41 by omega)] at f41
          first|rw[decide_eq_true (show bt s k=43 from c)] at f43|rw[decide_eq_false (show ¬bt s k=43 by omega)] at f43
          first|rw[decide_eq_true (show bt s k=45 from c)] at S|rw[decide_eq_false (show ¬bt s k=45 by omega)] at S
          first|rw[decide_eq_true (show bt s k=42 from c)] at f42|rw[decide_eq_false (show ¬bt s k=42 by omega)] at f42
          first|rw[decide_eq_true (show bt s k=47 from c)] at f47|rw[decide_eq_false (show ¬bt s k=47 by omega)] at f47
          first|rw[decide_eq_true (show bt s k=61 from c)] at Z|rw[decide_eq_false (show ¬bt s k=61 by omega)] at Z
          first|rw[decide_eq_true (show bt s k=60 from c)] at ab|rw[decide_eq_false (show ¬bt s k=60 by omega)] at ab
          clear c I;go_wp2_with (first|(go_at_call 138;refine J2 _ _ _ ?_;rw[A])|(go_at_call 139;refine D8 _ _ _ ?_;rw[D])|(at_builtin;refine C3 _ rfl _ _ 169 rfl w.heap.size 176 _ 2 24 A7S A1X rfl (by decide) _ _ _ rfl (by exact d.out.alloc _) _ 1 1 [.int .u8 115,.string (s.extract k (k+1))] rfl (by exact A9 (by simp)) rfl (A3J _ _) (by unfold maxLen;omega) (by omega) (by simp;omega) ?_;intro v1 w1 a b;obtain⟨N,L,rfl⟩:=A7 a;replace a:=hd a;replace b:=hd b));refine⟨⟨k+1,B,acc++[s.extract k (k+1)],by first|rfl|go_num,by omega,by omega,by simp;omega,?_,?_,m.out⟩,by simp[intOf];omega⟩
          ·rw[z0,A0M y.out];exact a.out
          ·exact (g.out.alloc x _).grown b.out (by simp;omega) (fun k F=>(d.out.lt k F).1)
       |false=>
        rw[J,if_neg (by simp)] at v;have m:X=none:=(by rw[G,B9a r v];rfl);have fin:=hd (no.out (by rw[m];rfl) _ g.out);have hor:=B69 J;obtain⟨n58,n59,n44,n91,n93,n40,n41,n43,n45,n42,n47,n61,n60⟩:=hor;rw[decide_eq_false n58] at f58;rw[decide_eq_false n59] at T;rw[decide_eq_false n44] at f44;rw[decide_eq_false n91] at f91;rw[decide_eq_false n93] at Y;rw[decide_eq_false n40] at aa;rw[decide_eq_false n41] at f41;rw[decide_eq_false n43] at f43;rw[decide_eq_false n45] at S;rw[decide_eq_false n42] at f42;rw[decide_eq_false n47] at f47;rw[decide_eq_false n61] at Z;rw[decide_eq_false n60] at ab;clear G m v J P n58 n59 n44 n91 n93 n40 n41 n43 n45 n42 n47 n61 n60;go_wp2_with (first|(go_at_call 138;refine J2 _ _ _ ?_;rw[A])|(go_at_call 139;refine D8 _ _ _ ?_;rw[D]));exact A6 fin.out rfl
  ·have td:decide ((k:Int)<(s.size:Int))=false:=(by simp;omega);rw[B7u r] at G;replace G:=hd G;replace d:=hd d;replace g:=hd g;go_wp2;exact A6 (yes.out acc (by rw[G.out];simp) _ _ g.out d.out) rfl
end Go.Proofs.YtidhiaaicmfabaaGreatDoor
