/- Texts (its parts, joined). -/
import Derived.Test.YtidhiaaicmfabaaGreatDoorTqBU
import Derived.Test.YtidhiaaicmfabaaGreatDoorTqBS
import Derived.Test.YtidhiaaicmfabaaGreatDoorTqBO
open Bool renaming and_eq_true→z4,or_eq_true→y1,and_eq_false_iff→y6,or_eq_false_iff→y7
open List renaming getElem?_eq_getElem→z5,getD_eq_getElem?_getD→z6,all_eq_true→z8,all_append→y0,mem_range→y2,mem_iff_getElem?→y5
open Nat renaming le_refl→z7
open Array renaming getElem?_eq_some_iff→z9
open Option renaming getD_some→y3,map_eq_some_iff→y4,toList_some→y8
namespace Go.Proofs.YtidhiaaicmfabaaGreatDoor
open Go.RowKit Go.Proofs Go.Deep
set_option maxRecDepth 100000
set_option maxHeartbeats 4000000
section
variable {vs:List Vd}
mutual
theorem rtS:∀s:Q3,okS s=true→knS vs s=true→B8P vs s
 |.set s e,ho,_=>⟨Y4 _ rfl,Y4 e ho⟩
 |.setx s i e,ho,_=>by
  simp only[okS,z4] at ho;exact⟨Y4 (.idx s i) ho.1,Y4 e ho.2⟩
 |.ife c t o,ho,hk=>by
  simp only[okS,z4] at ho;simp only[knS,G0,y0,z4] at hk;exact⟨Y4 c ho.1.1,X8 t (rtX t ho.1.2 hk.2.1) hk.2.1,X8 o (rtX o ho.2 hk.2.2) hk.2.2⟩
 |.cas e ws o,ho,hk=>by
  simp only[okS,z4] at ho;simp only[knS,G0,y0,z4] at hk;exact⟨Y4 e ho.1.1,rtW ws ho.1.2 hk.2.1,X8 o (rtX o ho.2 hk.2.2) hk.2.2⟩
 |.loop s f l b,ho,hk=>by
  simp only[knS,G0,List.all_cons,z4] at hk;exact X8 b (rtX b ho hk.2) hk.2
theorem rtX:∀l:Sl,okL l=true→knL vs l=true→B4c vs l
 |.nil,_,_=>trivial
 |.cons h t,ho,hk=>by
  simp only[okL,z4] at ho;simp only[knL,E0,y0,z4] at hk;exact⟨rtS h ho.1 hk.1,rtX t ho.2 hk.2⟩
theorem rtW:∀l:Wl,okW l=true→(O3 l).all (knB vs)=true→B4T vs l
 |.nil,_,_=>trivial
 |.cons ns b t,ho,hk=>by
  simp only[okW,z4] at ho;simp only[O3,y0,z4] at hk;exact⟨X8 b (rtX b ho.1 hk.1) hk.1,rtW t ho.2.1 hk.2⟩
end
theorem B6U (l:Sl)(b:okL l=true)(a:knL vs l=true):A7o vs l:=X8 l (rtX l b a) a
end
mutual
theorem B6b {vs:List Vd}:∀(s:Q3){ls:LB},wtS vs ls s=true→fiS s=true
 |.set _ _,_,_=>rfl
 |.setx _ _ _,_,_=>rfl
 |.ife c t o,ls,h=>by
  simp only[wtS,z4] at h;simp only[fiS,z4];exact⟨A14 t h.1.2,A14 o h.2⟩
 |.cas e ws o,ls,h=>by
  simp only[wtS,z4] at h;simp only[fiS,z4];exact⟨B2B ws h.1.2,A14 o h.2⟩
 |.loop s f l b,ls,h=>by
  simp only[wtS,z4] at h;simp only[fiS,z4];refine⟨?_,A14 b h.2⟩;have h1:=h.1;cases hv:C1 vs s with
  |none=>rw[hv] at h1;cases h1
  |some v=>
   rw[hv] at h1;simp only[inI,inD,z4,y1,decide_eq_true_eq] at h1 ⊢;omega
theorem A14 {vs:List Vd}:∀(l:Sl){ls:LB},Q9 vs ls l=true→fiL l=true
 |.nil,_,_=>rfl
 |.cons h t,ls,hw=>by
  simp only[Q9,z4] at hw;simp only[fiL,z4];exact⟨B6b h hw.1,A14 t hw.2⟩
theorem B2B {vs:List Vd}:∀(l:Wl){ls:LB},wtW vs ls l=true→fiW l=true
 |.nil,_,_=>rfl
 |.cons ns b t,ls,hw=>by
  simp only[wtW,z4] at hw;simp only[fiW,z4];exact⟨A14 b hw.1.2,B2B t hw.2⟩
end
structure DPx (lo:Nat)(w:WD)(vs:List Vd)(body:Sl)(pb m:Nat)(b a:VL)(xs:List VL):Prop where
 dg:Dg vs pb m b w
 lo:lo≤pb
 bk:w.heap[pb]? =some (.cells #[b,a] 100)
 ri:C2 w m w.heap.size 181 1 a body.len xs
 dl:DL TA a.ownBlock body m w.heap.size w xs
theorem dpx {lo:Nat}{w:WD}{vs:List Vd}{body:Sl}{pb:Nat}(h:DPg lo w vs body pb)(b:∀v∈vs,A6o v)(D:vs.length≤700):∃m s r xs,DPx lo w vs body pb m s r xs∧lo≤m∧pb<m:=by
 obtain⟨B,o,G,bc,xs,c,u,l,m,E,C,y,A,z⟩:=h.ex;have q:pb<w.heap.size:=(z9.1 c).1;have a:vs.length≤o:=by
  rcases l.2 with ⟨e,k⟩|⟨g,cap,cur,e,_,_,j,_⟩
  ·rw[k];omega
  ·injection e with _ _ e;rw[e];exact j
 refine⟨min m w.heap.size,_,_,xs,⟨⟨fun v d=>⟨(b v d).1,(b v d).2.1,(b v d).2.2.1⟩,by omega,by omega,by omega,⟨_,c⟩,B,o,rfl,a,fun k=>?_⟩,u,c,A.wd (by omega) (z7 _),z.wide (by omega) (z7 _)⟩,?_,by omega⟩
 ·obtain⟨g,cap,e,F,n⟩:=A3W l k (fun i hi f p=>B1s vs i hi f p);injection e with x _ t;subst x t;have:=y g rfl;have:=n.lt;exact⟨g,rfl,by omega,n⟩
 ·omega
def szD (v:Vd):Int:=if v.arr then c40 v.len else -1
def tyD (v:Vd):Bool:= !(decide (szD v=0)||(decide (16<szD v)||(decide (v.kind=3) && !decide (v.role=2))))
def ceD (v:Vd):Int:=if szD v<0 then 1 else szD v
def ceL (vs:List Vd):Int:=(vs.map ceD).foldl (· +·) 0
def A2B (vs:List Vd):Bool:=(List.range vs.length).all (fun j=>fdI vs (vs.getD j ⟨⟨#[]⟩,0,0,false,0⟩).name==some j)
def A2o (vs:List Vd)(body:Sl):Int:=if A2B vs=false then 7 else if knL vs body=false then 7 else if (Q9 vs [] body&&vs.all tyD)=false then 8 else if (decide (60<ceL vs)||decide (4000<1+min (C0 body) X2))=true then 9 else 0
theorem A7p {vs:List Vd}{i:Nat}{v:Vd}(h:vs[i]? =some v):ceL (vs.take (i+1))=ceL (vs.take i)+ceD v:=by unfold ceL;rw[List.take_add_one,h,y8,List.map_append,List.foldl_append];rfl
theorem B3g (v:Vd):0≤ceD v∧ceD v≤1099511627776:=by unfold ceD szD c40;split<;>split at* <;>omega
theorem A8g (vs:List Vd):∀i:Nat,i≤vs.length→0≤ceL (vs.take i)∧ceL (vs.take i)≤1099511627776*(i:Int)
 |0,_=>by simp[ceL]
 |i+1,h=>by
  have b:=A8g vs i (by omega);obtain⟨v,a⟩:∃v,vs[i]? =some v:=⟨_,z5 (by omega)⟩;have:=B3g v;rw[A7p a];omega
theorem A5H (w:WD)(v:Vd)(R:RP)(a:∀w',Below w.heap.size w w'→R (.returned (.int .i64 (ceD v))) w'):Calls Tryz.prog 49 #[.agg #[.int .i64 (v.role:Int),.string v.name,.int .i64 (v.kind:Int),.int .i64 (szD v)]] w R:=by
 unfold ceD at a;have b:=hd ((Below.refl w.heap.size w).alloc (z7 _) (Obj.cells #[.int .i64 (v.role:Int),.string v.name,.int .i64 (v.kind:Int),.int .i64 (szD v)] 102));generalize szD v=S at*;replace a:=hd a;by_cases c:S<0
 ·have d:decide (S<0)=true:=(by simpa using c);rw[if_pos c] at a;go_enter Tryz.func49,Tryz.ntmps49;go_wp2;exact A6 (a.out _ b.out) rfl
 ·have d:decide (S<0)=false:=(by simpa using c);rw[if_neg c] at a;go_enter Tryz.func49,Tryz.ntmps49;go_wp2;exact A6 (a.out _ b.out) rfl
theorem B2T {vs:List Vd}{pb m:Nat}{w:WD}{g k j:Nat}{s:BA}(h:Dg vs pb m (.slice (some ⟨g,0,none⟩) vs.length k) w)(d:fdI vs s=some j)(c:∃v,C1 vs s=some v)(R:RP)(b:R (.returned (.pointer (some ⟨g,j*4,none⟩))) w):Calls Tryz.prog 48 #[.pointer (some ⟨pb,0,none⟩),.string s] w R:=by refine A3z h s R (fun e=>by obtain⟨v,c⟩:=c;rw[c] at e;cases e) (fun g' i v f a _ _ _ e _=>?_);rw[d] at a;injection a with a;injection e with e;injection e with e;injection e with e;rw[←a,←e];exact b
theorem A6z:∀(vs:List Vd) (i:Nat) (v:Vd),vs[i]? =some v→(∃j,fdI vs v.name=some j∧j≤i)∧∃u,C1 vs v.name=some u
 |[],i,v,h=>by simp at h
 |u::vs,0,v,h=>by
  simp only[List.getElem?_cons_zero,Option.some.injEq] at h;subst h;simp only[fdI,C1,if_true];exact⟨⟨0,rfl,z7 _⟩,_,rfl⟩
 |u::vs,i+1,v,h=>by
  simp only[fdI,C1];by_cases e:v.name=u.name
  ·simp only[if_pos e];exact⟨⟨0,rfl,Nat.zero_le _⟩,_,rfl⟩
  ·simp only[if_neg e];obtain⟨⟨j,b,c⟩,a⟩:=A6z vs i v (by simpa using h);exact⟨⟨j+1,by rw[b];rfl,by omega⟩,a⟩
theorem B8j:Tryz.prog.underlying 103=some (.pointer 102):=by kernel_rfl
theorem B4o {g a:Nat}(w:WD):(binOp .neq 103 (.pointer (some ⟨g,a,none⟩)) (.pointer (some ⟨g,a,none⟩))).run Tryz.prog w=.ok (.bool false) w:=by
 obtain⟨i,hi,b⟩:=y4.1 A8v;have h:∀d:Nat,(Op.equalIn (d+1) 103 (.pointer (some ⟨g,a,none⟩)) (.pointer (some ⟨g,a,none⟩))).run Tryz.prog w=.ok true w:=fun d=>by simp[Op.equalIn,run_underlying B8j,sizeOf,typeInfo,hi,sameAddr]
 simp only[binOp];simp[Op.equal,Op.maxDepth,h 9999]
theorem B6S {g a b:Nat}(c:a≠b)(w:WD):(binOp .neq 103 (.pointer (some ⟨g,a,none⟩)) (.pointer (some ⟨g,b,none⟩))).run Tryz.prog w=.ok (.bool true) w:=by
 obtain⟨i,hi,f⟩:=y4.1 A8v;simp only[Prod.mk.injEq] at f;have k:i.size≠0:=(by rw[f.2.1];decide);have j:((⟨g,a,none⟩:Addr)==⟨g,b,none⟩)=false:=beq_eq_false_iff_ne.2 (fun e=>by injection e with _ e;exact c e);have h:∀d:Nat,(Op.equalIn (d+1) 103 (.pointer (some ⟨g,a,none⟩)) (.pointer (some ⟨g,b,none⟩))).run Tryz.prog w=.ok false w:=fun d=>by simp[Op.equalIn,run_underlying B8j,sizeOf,typeInfo,hi,k,sameAddr,j]
 simp only[binOp];simp[Op.equal,Op.maxDepth,h 9999]
theorem B1z {w:WD}{pb:Nat}{h e:VL}{n:Int}(c:w.heap[pb]? =some (.cells #[h,e] 100))(g:CoC w e n)(m:0≤n∧n≤1099511627776)(d:WD)(b:HQ d w)(R:RP)(a:∀w',HQ w' w→R (.returned (.int .i64 (1+n))) w'):Calls Tryz.prog 16 #[.pointer (some ⟨pb,0,none⟩)] d R:=by have k:d.cell? ⟨pb,1,none⟩=some e:=C6 b (A1 (i:=1) c rfl);have j:pb<d.heap.size:=(by rw[b.1];exact (z9.1 c).1);have l:IntKind.i64.wrap (1+n)=1+n:=IntWalk.i64_in _ (by omega);replace a:=hd a;replace g:=hd g;replace b:=hd b;go_enter Tryz.func16,Tryz.ntmps16;go_wp2_with (fail);refine g.out _ b.out _ ?_;intro w1 f;replace f:=hd f;go_wp2;exact A6 (a.out _ f.out) rfl
theorem C0b {vs:List Vd}{body:Sl}(b:A2B vs=true)(a:knL vs body=false):A2o vs body=7:=by unfold A2o;rw[if_neg (by rw[b];decide),if_pos a]
theorem C0s {vs:List Vd}{body:Sl}(b:A2B vs=true)(c:knL vs body=true)(a:(Q9 vs [] body&&vs.all tyD)=false):A2o vs body=8:=by unfold A2o;rw[if_neg (by rw[b];decide),if_neg (by rw[c];decide),if_pos a]
theorem B9R {vs:List Vd}{body:Sl}(c:A2B vs=true)(d:knL vs body=true)(a:(Q9 vs [] body&&vs.all tyD)=true)(b:(decide (60<ceL vs)||decide (4000<1+min (C0 body) X2))=true):A2o vs body=9:=by unfold A2o;rw[if_neg (by rw[c];decide),if_neg (by rw[d];decide),if_neg (by rw[a];decide),if_pos b]
theorem B9W {vs:List Vd}{body:Sl}(c:A2B vs=true)(d:knL vs body=true)(a:(Q9 vs [] body&&vs.all tyD)=true)(b:(decide (60<ceL vs)||decide (4000<1+min (C0 body) X2))=false):A2o vs body=0:=by unfold A2o;rw[if_neg (by rw[c];decide),if_neg (by rw[d];decide),if_neg (by rw[a];decide),if_neg (by rw[b];decide)]
theorem A8O (s:BA)(hs:s.size≤2000000)(w:WD)(R:RP)(no0:M8 s=none→∀w',Below w.heap.size w w'→R (.returned (.tuple #[.pointer none,.int .i64 6])) w')(no:∀vs body,M8 s=some (vs,body)→A2o vs body≠0→∀w',Below w.heap.size w w'→R (.returned (.tuple #[.pointer none,.int .i64 (A2o vs body)])) w')(yes:∀vs body,M8 s=some (vs,body)→A2o vs body=0→∀w' pb m av U xs,Below w.heap.size w w'→Dg vs pb m av w'→w'.heap[pb]? =some (.cells #[av,U] 100)→(∃hi,hi≤w'.heap.size∧C2 w' m hi 181 1 U body.len xs∧DL TA U.ownBlock body m hi w' xs)→R (.returned (.tuple #[.pointer (some ⟨pb,0,none⟩),.int .i64 0])) w'):Calls Tryz.prog 13 #[.string s] w R:=by
 replace no0:=hd no0;replace no:=hd no;replace yes:=hd yes;go_enter Tryz.func13,Tryz.ntmps13;go_wp2_with (fail);refine B7t s hs w (tkA s hs w) _ ?_ ?_
 ·intro hn w1 E;have o:=hd (no0.out hn w1 E);clear hn E;go_wp2;exact A6 o.out rfl
 ·intro vs body hrd w1 pb E hpg;obtain⟨hnd,hok,hlv,hvd,_⟩:=V8 hrd;obtain⟨m,av,U,xs,P,hlm,hpm⟩:=dpx hpg hvd hlv;obtain⟨ao,cp,rfl,hcp,ac⟩:=P.dg.sl;have c0:=A1 (i:=0) P.bk rfl;have lb:pb<w1.heap.size:=(z9.1 P.bk).1;have hmz:=P.dg.le;have t:=no.out vs body hrd;have ab:=yes.out vs body hrd;have hz1:=E.size;replace t:=hd t;replace ab:=hd ab;replace P:=hd P;replace ac:=hd ac;replace E:=hd E;replace hvd:=hd hvd;clear hpg hrd no0 no yes;go_wp2;go_loopw [5,6,7] (fun cv tv iv wr=>∃i:Nat,i≤vs.length∧cv=.int .i64 (ceL (vs.take i))∧tv=.bool ((vs.take i).all tyD)∧iv=.int .i64 (i:Int)∧Below w1.heap.size w1 wr∧∀j v,j<i→vs[j]? =some v→fdI vs v.name=some j) (fun _ _ iv _=>vs.length-(intOf iv).toNat);case atStart=>exact⟨0,Nat.zero_le _,rfl,rfl,rfl,Below.refl _ _,fun j v S=>by omega⟩
  case round=>
   obtain⟨i,hi,rfl,rfl,rfl,l,Q⟩:=hrel;rename WD=>wr;have hzr:=l.size;have c0r:wr.cell? ⟨pb,0,none⟩=some (.slice ao vs.length cp):=(l.cell (p:=⟨pb,0,none⟩) lb).trans c0;have lbr:pb<wr.heap.size:=(by omega);by_cases X:i<vs.length
   ·have td:decide ((i:Int)<(vs.length:Int))=true:=(by simp;omega);have j0:(0:Int)≤(i:Int)∧(i:Int)<(vs.length:Int):=(by omega);obtain⟨g,rfl,hg,ht⟩:=ac.out (by omega);obtain⟨v,hv⟩:∃v,vs[i]? =some v:=⟨_,z5 X⟩;have K:=ht.of_block (w':=wr) (l.block g ht.lt);have ev:vs.getD i ⟨⟨#[]⟩,0,0,false,0⟩=v:=(by rw[z6,hv];rfl);have k0:wr.cell? ⟨g,i*4,none⟩=some (.int .i64 (v.role:Int)):=(by rw[K.cell0 X (by omega)];unfold dgA;rw[ev];rfl);have k1:wr.cell? ⟨g,i*4+1,none⟩=some (.string v.name):=(by rw[K.cell X (f:=1) (by omega)];unfold dgA;rw[ev];rfl);have G:wr.cell? ⟨g,i*4+2,none⟩=some (.int .i64 (v.kind:Int)):=(by rw[K.cell X (f:=2) (by omega)];unfold dgA;rw[ev];rfl);have k3:wr.cell? ⟨g,i*4+3,none⟩=some (.int .i64 (szD v)):=(by rw[K.cell X (f:=3) (by omega)];unfold dgA;rw[ev];rfl);have lgr:=K.lt;obtain⟨⟨j,S,hji⟩,hlk⟩:=A6z vs i v hv;replace K:=hd K;replace ht:=hd ht;replace hv:=hd hv;replace Q:=hd Q;replace l:=hd l;clear ev;obtain⟨W1,D⟩:∃W,W=wr.alloc (Obj.cells #[.int .i64 (v.role:Int),.string v.name,.int .i64 (v.kind:Int),.int .i64 (szD v)] 102):=⟨_,rfl⟩;have hW1:W1.heap.size=wr.heap.size+1:=(by rw[D];simp);have J:Below w1.heap.size w1 W1:=(by rw[D];exact l.out.alloc hzr _);have V:W1.heap[wr.heap.size]? =some (.cells #[.int .i64 (v.role:Int),.string v.name,.int .i64 (v.kind:Int),.int .i64 (szD v)] 102):=(by rw[D];exact A9 rfl);have z0:=A1 (i:=0) V rfl;have z1:=A1 (i:=1) V rfl;have z2:=A1 (i:=2) V rfl;have z3:=A1 (i:=3) V rfl;have lz:wr.heap.size<W1.heap.size:=(by omega);have c0W:W1.cell? ⟨pb,0,none⟩=some (.slice (some ⟨g,0,none⟩) vs.length cp):=(J.cell (p:=⟨pb,0,none⟩) lb).trans c0;have lbW:pb<W1.heap.size:=(by omega);have ah:∀n,Dg vs pb m (.slice (some ⟨g,0,none⟩) vs.length cp) (W1.drewN n):=fun n=>P.out.dg.keep (fun c hc=>J.block c (by omega)) (show m≤W1.heap.size by omega);have ae:=A7p hv.out;have hcb:=A8g vs i (by omega);have hcd:=B3g v;have hal:(vs.take (i+1)).all tyD=((vs.take i).all tyD&&tyD v):=(by rw[List.take_add_one,hv.out,y8,y0];simp);generalize ceL (vs.take i)=C at*;have js:IntKind.i64.wrap (C+ceD v)=C+ceD v:=IntWalk.i64_in _ (by omega);replace ah:=hd ah;replace ae:=hd ae;replace hal:=hd hal;replace S:=hd S;replace J:=hd J;replace V:=hd V;by_cases cji:j=i
    ·subst cji;have hpn:=B4o (g:=g) (a:=j*4);have q1:(szD v==0)=decide (szD v=0):=(by by_cases h:szD v=0<;>simp[h]);have q3:((v.kind:Int)==3)=decide (v.kind=3):=A0r _ 3;have q4:((v.role:Int) !=2)= !decide (v.role=2):=(by rw[bne,show ((v.role:Int)==2)=decide (v.role=2) from A0r _ 2]);have I:tyD v= !(decide (szD v=0)||(decide (16<szD v)||(decide (v.kind=3) && !decide (v.role=2)))):=rfl;obtain⟨p1,e1⟩:∃p,decide (szD v=0)=p:=⟨_,rfl⟩;obtain⟨p2,e2⟩:∃p,decide (16<szD v)=p:=⟨_,rfl⟩;obtain⟨p3,e3⟩:∃p,decide (v.kind=3)=p:=⟨_,rfl⟩;obtain⟨p4,e4⟩:∃p,decide (v.role=2)=p:=⟨_,rfl⟩;rw[e1] at q1 I;rw[e2] at I;rw[e3] at q3 I;rw[e4] at q4 I;obtain⟨A,eA⟩:∃A,(vs.take j).all tyD=A:=⟨_,rfl⟩;rw[eA] at hal;rw[eA];replace I:=hd I;replace eA:=hd eA;replace e1:=hd e1;replace e3:=hd e3;replace e4:=hd e4;have Z:∀k u,k<j+1→vs[k]? =some u→fdI vs u.name=some k:=fun k u Y hu=>by
      by_cases e:k=j
      ·subst e;rw[hv.out] at hu;injection hu with hu;rw[←hu];exact S.out
      ·exact Q.out k u (by omega) hu
     replace Z:=hd Z;go_wp2_with (fail);rw[←D];replace D:=hd D;generalize wr.heap.size=z at*;clear k0 k1 G k3;go_quiet (first|(go_at_call 48;exact Calls.quiet_of_same (B2T (ah.out _) S.out hlk _ ⟨rfl,rfl⟩)));rcases (show p1=true∨(p1=false∧p2=true)∨(p1=false∧p2=false∧p3=true∧p4=false)∨(p1=false∧p2=false∧p3=true∧p4=true)∨(p1=false∧p2=false∧p3=false) by cases p1<;>cases p2<;>cases p3<;>cases p4<;>simp) with rfl|⟨rfl,rfl⟩|⟨rfl,rfl,rfl,rfl⟩|⟨rfl,rfl,rfl,rfl⟩|⟨rfl,rfl,rfl⟩;all_goals
      go_wp2_with (fail)
      refine A5H _ v _ ?_
      intro w5 hb5
      have hb6:=hd ((below_drewN J.out nq).trans (hb5.mono (show w1.heap.size≤W1.heap.size from J.out.size)))
      go_wp2
      exact⟨⟨j+1,by omega,by rw[ae.out],by rw[hal.out,I.out];simp,by go_num,hb6.out,Z.out⟩,by simp[intOf];omega⟩
    ·have hpn:=B6S (g:=g) (show j*4≠i*4 by omega);have d:A2o vs body=7:=by
      have:A2B vs=false:=by
       cases e:A2B vs with
       |false=>rfl
       |true=>
        unfold A2B at e;have:=z8.1 e i (y2.2 X);rw[z6,hv.out] at this;simp only[y3,beq_iff_eq] at this;rw[S.out] at this;injection this with this;exact absurd this cji
      unfold A2o;rw[if_pos this]
     have o:=hd (fun n=>t.out (by rw[d];decide) _ (E.out.trans ((below_drewN J.out n).mono hz1)));rw[d] at o;replace d:=hd d;go_wp2_with (fail);rw[←D];replace D:=hd D;generalize wr.heap.size=z at*;clear k0 k1 G k3;go_quiet (first|(go_at_call 48;exact Calls.quiet_of_same (B2T (ah.out _) S.out hlk _ ⟨rfl,rfl⟩)));go_wp2;exact A6 (o.out _) rfl
   ·have hie:i=vs.length:=(by omega);subst hie;rw[List.take_length];have td:decide ((vs.length:Int)<(vs.length:Int))=false:=(by simp);have c1r:wr.cell? ⟨pb,1,none⟩=some U:=(l.cell (p:=⟨pb,1,none⟩) lb).trans (A1 (i:=1) P.out.bk rfl);have y:A2B vs=true:=z8.2 (fun j S=>by have S:=y2.1 S;rw[z6,z5 S];exact beq_iff_eq.2 (Q j _ S (z5 S)));have aa:Dg vs pb m (.slice ao vs.length cp) wr:=P.out.dg.keep (fun c hc=>l.block c (by omega)) (by omega);have af:C2 wr m w1.heap.size 181 1 U body.len xs:=P.out.ri.below l;have ag:DL TA U.ownBlock body m w1.heap.size wr xs:=P.out.dl.keep (fun c _ c2 _=>l.block c c2);have hbk:wr.heap[pb]? =some (.cells #[.slice ao vs.length cp,U] 100):=(l.block pb lb).trans P.out.bk;have hB:Below w.heap.size w wr:=E.out.trans (l.mono hz1);have F:=B57 aa body (by omega) af ag;replace Q:=hd Q;replace P:=hd P;replace l:=hd l;replace aa:=hd aa;replace af:=hd af;replace ag:=hd ag;replace hbk:=hd hbk;replace hB:=hd hB;replace y:=hd y;cases Y:knL vs body with
    |false=>as_aux_lemma=>
     rw[Y] at F;have d:=C0b y.out Y;rw[d] at t;have o:=hd (t.out (by decide) _ hB.out);replace d:=hd d;replace Y:=hd Y;replace F:=hd F;go_wp2_with (fail);refine F.out _ ?_;go_wp2;exact A6 o.out rfl
    |true=>
     rw[Y] at F;have hrt:=B6U body hok Y (m:=m) (pb:=pb) (lo:=m) (hi:=w1.heap.size) aa.out (z7 _) (by omega) af.out ag.out (ls:=[]) (by simp only[List.length_nil];omega);have B:=hrt wr (fun _ _=>rfl) (z7 _) (.slice none 0 0) ⟨none,0,rfl,z7 _,fun h=>absurd h (Nat.lt_irrefl 0)⟩;obtain⟨r,er⟩:∃r,Q9 vs [] body=r:=⟨_,rfl⟩;obtain⟨T,eT⟩:∃T,vs.all tyD=T:=⟨_,rfl⟩;rw[er] at B;rw[eT];clear hrt;replace F:=hd F;replace B:=hd B;replace Y:=hd Y;replace er:=hd er;replace eT:=hd eT;go_wp2_with (fail);refine F.out _ ?_;go_wp2_with (fail);refine B.out _ ?_;intro w2 G;have H:Below w.heap.size w w2:=hB.out.trans ⟨G.fr.1,G.fr.2.1,G.fr.2.2,G.sz,fun c hc=>G.out c (by omega) (.inl (by omega))⟩;have hcb:=A8g vs vs.length (z7 _);rw[List.take_length] at hcb;replace B:=hd B;by_cases hrT:(r&&T)=true
     ·obtain⟨rfl,rfl⟩:=Bool.and_eq_true_iff.1 hrT;have M:w2.heap[pb]? =some (.cells #[.slice ao vs.length cp,U] 100):=(G.out pb lbr (.inl hpm)).trans hbk.out;have L:=ag.out.kr G;have O:=G.rowIn af.out (by decide);have hD2:=aa.out.kr G (z7 _);have hco:=B5C body (by omega) (A14 body er.out) O L;have hcp:0≤min (C0 body) X2∧min (C0 body) X2≤1099511627776:=(by have:=G2 body;unfold X2;omega);have h3:(Q9 vs [] body&&vs.all tyD)=true:=(by rw[er.out,eT.out];rfl);have h9:=B9R y.out Y.out h3;have h0:=B9W y.out Y.out h3;have x:∀w':WD,HQ w' w2→Below w.heap.size w w'∧Dg vs pb m (.slice ao vs.length cp) w'∧w'.heap[pb]? =some (.cells #[.slice ao vs.length cp,U] 100)∧∃hi,hi≤w'.heap.size∧C2 w' m hi 181 1 U body.len xs∧DL TA U.ownBlock body m hi w' xs:=fun w' q=>
       ⟨H.trans ⟨q.2.1,q.2.2.1,q.2.2.2,by rw[q.1];exact z7 _,fun c _=>by rw[q.1]⟩,hD2.keep (fun c _=>by rw[q.1]) (by rw[q.1];exact hD2.le),by rw[q.1];exact M,w1.heap.size,by rw[q.1];have:=G.sz;omega,O.tagZ (fun b cur _=>by rw[q.1]),L.keep (fun c _ _ _=>by rw[q.1])⟩
      have hpc:=B1z M hco hcp;replace x:=hd x;generalize min (C0 body) X2=N at*;generalize ceL vs=C at*;replace hco:=hd hco;replace hpc:=hd hpc;replace M:=hd M;replace L:=hd L;replace O:=hd O;replace hD2:=hd hD2;replace H:=hd H;replace G:=hd G;replace h3:=hd h3;by_cases hc6:60<C
      ·have t6:decide (C>60)=true:=(by simpa using hc6);have d:=h9 (by simp[hc6]);clear h9 h0;rw[d] at t;have o:=hd (t.out (by decide) _ H.out);replace d:=hd d;go_wp2;exact A6 o.out rfl
      ·have t6:decide (C>60)=false:=(by simpa using hc6);by_cases hc4:4000<1+N
       ·have t4:decide (1+N>4000)=true:=(by simpa using hc4);have d:=h9 (by simp[hc4]);clear h9 h0;rw[d] at t;have o:=hd (fun w' q=>t.out (by decide) w' (x.out w' q).1);replace d:=hd d;go_wp2_with (fail);refine hpc.out _ ⟨rfl,rfl,rfl,rfl⟩ _ ?_;intro w3 q3;have ad:=hd (o.out w3 q3);clear q3;go_wp2;exact A6 ad.out rfl
       ·have t4:decide (1+N>4000)=false:=(by simpa using hc4);have d:=h0 (by simp[hc4,hc6]);clear h9 h0;have o:=hd (fun w' q=>ab.out d w' pb m _ U xs (x.out w' q).1 (x.out w' q).2.1 (x.out w' q).2.2.1 (x.out w' q).2.2.2);replace d:=hd d;go_wp2_with (fail);refine hpc.out _ ⟨rfl,rfl,rfl,rfl⟩ _ ?_;intro w3 q3;have ad:=hd (o.out w3 q3);clear q3;go_wp2;exact A6 ad.out rfl
     ·have hrT':(r&&T)=false:=(by simpa using hrT);have d:=C0s y.out Y.out (by rw[er.out,eT.out];exact hrT');rw[d] at t;have o:=hd (t.out (by decide) _ H);replace d:=hd d;replace H:=hd H;replace G:=hd G;clear hrT hcb;cases r with
      |false=>
       go_wp2;exact A6 o.out rfl
      |true=>
       cases T with
       |false=>
        go_wp2;exact A6 o.out rfl
       |true=>cases hrT'
theorem A9L (vs:List Vd):A2B vs=true↔B2s vs:=by
 unfold A2B B2s;constructor
 ·intro h j v c u f e;obtain⟨i,hi⟩:=y5.1 f;rw[List.getElem?_take] at hi;split at hi
  ·rename_i b;obtain⟨⟨k,d,g⟩,_⟩:=A6z vs i u hi;have a:=z8.1 h j (y2.2 (List.getElem?_eq_some_iff.1 c).1);rw[z6,c,y3,beq_iff_eq,e,d] at a;injection a with a;omega
  ·cases hi
 ·intro h;refine z8.2 (fun j a=>?_);have a:=y2.1 a;rw[z6,z5 a,y3,beq_iff_eq];refine (A4Q vs _ j _ (fun i v b c=>?_) (z5 a) rfl).1;exact h j _ (z5 a) v (y5.2 ⟨i,by rw[List.getElem?_take,if_pos b];exact c⟩)
theorem B2Z {v:Vd}(h:A6o v):wtV v=tyD v:=by
 obtain⟨d,e,b,c,_⟩:=h;unfold wtV tyD szD c40;rw[Bool.eq_iff_iff];cases a:v.arr
 ·have:=c a;simp only[z4,y1,decide_eq_true_eq,Bool.not_eq_true',y7,y6,decide_eq_false_iff_not,Bool.not_eq_false'];simp;omega
 ·have:=b a;simp only[z4,y1,decide_eq_true_eq,Bool.not_eq_true',y7,y6,decide_eq_false_iff_not,Bool.not_eq_false',if_true];omega
theorem B2i (v:Vd)(vs:List Vd):ceL (v::vs)=ceD v+ceL vs:=by
 have b:∀(l:List Int) (a:Int),l.foldl (· +·) a=a+l.foldl (· +·) 0:=by
  intro l;induction l with
  |nil=>intro a;simp
  |cons x t ih=>intro a;simp only[List.foldl_cons];rw[ih (a+x),ih (0+x)];omega
 unfold ceL;rw[List.map_cons,List.foldl_cons,b];omega
theorem B1V:∀(vs:List Vd),(∀v∈vs,A6o v)→vs.all wtV=true→N4 vs=ceL vs
 |[],_,_=>rfl
 |v::vs,h,hw=>by
  rw[List.all_cons,z4] at hw;have c:=B1V vs (fun u b=>h u (List.mem_cons_of_mem _ b)) hw.2;obtain⟨_,_,f,d,_⟩:=h v (List.mem_cons_self ..);have a:=hw.1;simp only[wtV,z4,decide_eq_true_eq] at a;rw[B2i,←c];show v.len+N4 vs=ceD v+N4 vs;unfold ceD szD c40;cases e:v.arr
  ·have:=d e;simp;omega
  ·simp only[if_true];split<;>omega
def A09 (vs:List Vd)(body:Sl):Int:=if A2B vs=false∨knL vs body=false then 7 else if (vs.all wtV&&Q9 vs [] body)=false then 8 else if 60<N4 vs∨4000<1+xcL body then 9 else 0
theorem A86 {vs:List Vd}{body:Sl}(h:∀v∈vs,A6o v):A09 vs body=A2o vs body:=by
 have a:vs.all wtV=vs.all tyD:=(by rw[Bool.eq_iff_iff,z8,z8];exact⟨fun g v c=>by rw[←B2Z (h v c)];exact g v c,fun g v c=>by rw[B2Z (h v c)];exact g v c⟩);unfold A09 A2o;by_cases d:A2B vs=false
 ·rw[if_pos (.inl d),if_pos d]
 ·rw[if_neg d];by_cases f:knL vs body=false
  ·rw[if_pos (.inr f),if_pos f]
  ·rw[if_neg (fun x=>x.elim d f),if_neg f];rw[←a,Bool.and_comm];by_cases b:(Q9 vs [] body&&vs.all wtV)=false
   ·rw[if_pos b,if_pos b]
   ·rw[if_neg b,if_neg b];have j:vs.all wtV=true:=(by have:(Q9 vs [] body&&vs.all wtV)=true:=(by simpa using b);rw[z4] at this;exact this.2);rw[B1V vs h j];have i:(decide (60<ceL vs)||decide (4000<1+min (C0 body) X2))=true↔(60<ceL vs∨4000<1+xcL body):=(by rw[y1,decide_eq_true_eq,decide_eq_true_eq];unfold xcL X2;omega);by_cases e:60<ceL vs∨4000<1+xcL body
    ·rw[if_pos e,if_pos (i.2 e)]
    ·rw[if_neg e,if_neg (fun x=>e (i.1 x))]
end Go.Proofs.YtidhiaaicmfabaaGreatDoor
