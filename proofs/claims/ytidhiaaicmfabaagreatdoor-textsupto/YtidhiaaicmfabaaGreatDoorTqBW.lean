/- Texts (its parts, joined). -/
import Derived.Test.YtidhiaaicmfabaaGreatDoorTqBT
import Derived.Test.YtidhiaaicmfabaaGreatDoorTqBV
import Derived.Test.YtidhiaaicmfabaaGreatDoorTqBR
open List renaming length_append→z0,length_cons→z3,length_nil→z5,mem_append→z6,nil_append→z7,mem_cons→z8,not_mem_nil→z9,map_append→y0
open Array renaming getElem?_eq_some_iff→z1
open Nat renaming le_refl→y1
open Int renaming le_refl→y3
namespace Go.Proofs.YtidhiaaicmfabaaGreatDoor
open Go.RowKit Go.Proofs Go.Deep
set_option maxRecDepth 100000
set_option maxHeartbeats 4000000
open Below renaming heap_alloc→z2
open World renaming size_alloc→z4,cell?_of_block→y2
def B1u (vs:List Vd)(body:Sl)(b:BA):Prop:=∀{lo bm:Nat}{W:WD}{c:List Nat}{xs:List VL}{f g e:Option Addr}{d h i a:Nat},PgK lo W.heap.size W vs c body xs (.slice f vs.length d) (.slice e body.len a)→U0 W bm vs.length (M3 vs c)→∀R:RP,(∀w',Vf lo W w'→R (.returned (.string b)) w')→
 Calls Tryz.prog 46 #[.agg #[.slice f vs.length d,.slice g h i,.slice e body.len a],.map (some bm)] W R
theorem A1G:∀e:Ex,((C7 e).length:Int)≤cE e
 |.lit _=>by simp[C7,cE]
 |.tru _=>by simp[C7,cE]
 |.plc _=>by simp[C7,cE]
 |.idx _ i=>by have:=A1G i;simp only[C7,cE,z3];omega
 |.bin _ l r=>by have:=A1G l;have:=A1G r;simp only[C7,cE,z0];omega
 |.neg e=>by have:=A1G e;simp only[C7,cE];omega
 |.sho e=>by have:=A1G e;simp only[C7,cE];omega
 |.dly _ a s=>by have:=A1G a;have:=A1G s;simp only[C7,cE,z3,z0];omega
mutual
theorem B3X:∀s:Q3,((G0 s).length:Int)≤I2 s
 |.set _ e=>by have:=A1G e;simp only[G0,I2,z3];omega
 |.setx _ i e=>by have:=A1G e;have:=A1G i;simp only[G0,I2,z3,z0];omega
 |.ife c t o=>by have:=A1G c;have:=Y5 t;have:=Y5 o;simp only[G0,I2,z0];omega
 |.cas e ws o=>by have:=A1G e;have:=A9V ws;have:=Y5 o;simp only[G0,I2,z0];omega
 |.loop _ _ _ b=>by have:=Y5 b;simp only[G0,I2,z3];omega
theorem Y5:∀l:Sl,((E0 l).length:Int)≤O6 l
 |.nil=>y3 _
 |.cons h t=>by have:=B3X h;have:=Y5 t;simp only[E0,O6,z0];omega
theorem A9V:∀l:Wl,((O3 l).length:Int)≤U4 l
 |.nil=>y3 _
 |.cons ns b t=>by have:=Y5 b;have:=A9V t;simp only[O3,U4,z0];omega
end
theorem A3C (s:BA)(w:WD)(hops:∀i v,opC[i]? =some v→w.cell? ⟨4,i,none⟩=some v)(he:Er 0 w)(img:List Vd→Sl→BA)(U:∀vs body,M8 s=some (vs,body)→A09 vs body=0→B1u vs body (img vs body))(R:RP)(V:M8 s=none→∀w',Below w.heap.size w w'→R (.returned (.tuple #[.string ⟨#[]⟩,.int .i64 6])) w')(no:∀vs body,M8 s=some (vs,body)→A09 vs body≠0→∀w',Below w.heap.size w w'→R (.returned (.tuple #[.string ⟨#[]⟩,.int .i64 (A09 vs body)])) w')(P:∀vs body,M8 s=some (vs,body)→A09 vs body=0→∀w',Below w.heap.size w w'→R (.returned (.tuple #[.string (img vs body),.int .i64 0])) w'):Calls Tryz.prog 12 #[.string s] w R:=by
 replace V:=hd V;replace no:=hd no;replace P:=hd P;replace U:=hd U;go_enter Tryz.func12,Tryz.ntmps12;go_wp2_with (fail);refine B8A s w hops he _ ?_ ?_
 ·intro hn w1 a b c n1 c1 n2 c2 n3 c3 n;have t:=hd (V.out hn _ (n.alloc n.size (Obj.cells #[.slice a n1 c1,.slice b n2 c2,.slice c n3 c3] 87)));clear hn n;go_wp2;exact A6 t.out rfl
 intro vs body g w1 bs xs vv uv bv n L;obtain⟨hnd,hok,hvl,hvd,hns⟩:=V8 g;have hbl:=B0 body;have hnn:=Y5 body;have m:=hd (no.out vs body g);have hyes:=hd (P.out vs body g);have hime:=hd (U.out vs body g);have hsz:∀v∈vs,v.name.size≤1000:=fun v hv=>(hvd v hv).2.2.2.2;have hk3:∀v∈vs,v.kind≤3:=fun v hv=>(hvd v hv).1;clear V no P U g;obtain⟨vo,vc,rfl⟩:=A7 L.vown;obtain⟨uo,uc,rfl⟩:=A7 L.used;obtain⟨bo,bc,rfl⟩:=A7 L.bown;have hz1:=n.size;obtain⟨W1,T⟩:∃W1,W1=w1.alloc (Obj.cells #[.slice vo vs.length vc,.slice uo (E0 body).length uc,.slice bo body.len bc] 87):=⟨_,rfl⟩;have I:Below w1.heap.size w1 W1:=(by rw[T];exact (Below.refl _ w1).alloc (y1 _) _);have hbx:W1.heap[w1.heap.size]? =some (.cells #[.slice vo vs.length vc,.slice uo (E0 body).length uc,.slice bo body.len bc] 87):=(by rw[T];exact A2);have hpW:=L.keep I;have hzW:=I.size;have hzWs:w1.heap.size<W1.heap.size:=(z1.1 hbx).1;replace n:=hd n;clear L;generalize hbp:w1.heap.size=bp at*;replace hbp:=hd hbp;have g:∀X:WD,X.heap[bp]? =some (.cells #[.slice vo vs.length vc,.slice uo (E0 body).length uc,.slice bo body.len bc] 87)→X.cell? ⟨bp,0,none⟩=some (.slice vo vs.length vc)∧X.cell? ⟨bp,1,none⟩=some (.slice uo (E0 body).length uc)∧X.cell? ⟨bp,2,none⟩=some (.slice bo body.len bc):=fun X hX=>⟨A1 hX rfl,A1 hX rfl,A1 hX rfl⟩;replace g:=hd g;go_wp2_with (fail);rw[hbp.out,←T];refine A5Y hpW hsz hns (by omega) (by omega) _ ?_ ?_
 ·intro Z w2 u;have d:A09 vs body=7:=by
   unfold A09;rw[if_pos];by_cases hD:A2B vs=true
   ·exact .inr (Z ((A9L vs).1 hD))
   ·exact .inl (by simpa using hD)
  have e:Below w.heap.size w w2:=n.out.trans ((I.mono (by omega)).trans (u.mono (by omega)));rw[d] at m;have t:=hd (m.out (by decide) w2 e);clear u e Z d;go_wp2;exact A6 t.out rfl
 intro hD hkn w2 bm u hbm K;have hD':A2B vs=true:=(A9L vs).2 hD;have Y:knL vs body=true:=hkn;have y:=(u.block bp hzWs).trans hbx;have H:=hpW.keep u;have hz2:=u.size;have e:Below w.heap.size w w2:=n.out.trans ((I.mono (by omega)).trans (u.mono (by omega)));obtain⟨q0,q1,q2⟩:=g.out w2 y;replace e:=hd e;clear n u hpW hbx T I;go_wp2_with (fail);refine B0y H K hsz (cxL hk3 body [] hkn hok (by simp only[z5];omega)) (by omega) (by omega) (by omega) _ ?_;intro w3 k3 f;have G:=(k3.tag y (by decide)).trans y;have r:=k3.own H.vown (by decide);have A:=k3.own H.bown (by decide);have o:=k3.vars H.vars;have N:=k3.nm K;have hz3:=k3.size;have h:Below w.heap.size w w3:=e.out.trans (k3.below (by omega));obtain⟨r0,r1,r2⟩:=g.out w3 G;replace h:=hd h;clear k3 H K e y q0 q1 q2;cases O:(vs.all wtV&&Q9 vs [] body) with
 |false=>
  have d:A09 vs body=8:=(by unfold A09;rw[if_neg (by rw[hD',Y];simp),if_pos O]);rw[d] at m;have t:=hd (m.out (by decide) w3 h.out);clear d f m;go_wp2;exact A6 t.out rfl
 |true=>
 have hwt2:=Bool.and_eq_true_iff.1 O;have hwv:∀v∈vs,wtV v=true:=List.all_eq_true.1 hwt2.1;replace f:=f O;have x:A09 vs body=if 60<N4 vs∨4000<1+xcL body then 9 else 0:=(by unfold A09;rw[if_neg (by rw[hD',Y];simp),if_neg (by rw[O];decide)]);replace x:=hd x;go_wp2_with (fail);refine B3e r o hwv (by omega) _ ?_;intro w4 S;have hz4:=S.size;have M:=(S.block bp (by omega)).trans G;have E:=A5 r (fun j _ _ hj=>S.block j hj);have q:=A5 A (fun j _ _ hj=>S.block j hj);have C:=o.keep (fun b _ _ hc=>S.block b (z1.1 hc).1);have J:=N.keep (S.block _ N.lt);have p:=f.below S (by omega);have k:Below w.heap.size w w4:=h.out.trans (S.mono (by omega));obtain⟨s0,s1,s2⟩:=g.out w4 M;replace k:=hd k;clear S r A o N f G h r0 r1 r2;by_cases c6:60<N4 vs
 ·have t6:decide (60<N4 vs)=true:=(by simpa using c6);have d:A09 vs body=9:=(by rw[x.out,if_pos (.inl c6)]);rw[d] at m;have t:=hd (m.out (by decide) w4 k.out);clear d;go_wp2;exact A6 t.out rfl
 have t6:decide (60<N4 vs)=false:=(by simpa using c6);go_wp2_with (fail);refine B4J (sxL body [] hwt2.2 (by omega)) (by omega) q p (by omega) _ ?_;intro w5 Q;have hz5:=Q.size;have hbx5:=(Q.block bp (by omega)).trans M;have D:=A5 E (fun j _ _ hj=>Q.block j hj);have F:=A5 q (fun j _ _ hj=>Q.block j hj);have z:=C.keep (fun b _ _ hc=>Q.block b (z1.1 hc).1);have hnm5:=J.keep (Q.block _ J.lt);have B:=p.below Q (by omega);have l:Below w.heap.size w w5:=k.out.trans (Q.mono (by omega));have hpk:PgK w.heap.size w5.heap.size w5 vs bs body xs (.slice vo vs.length vc) (.slice bo body.len bc):=⟨D,z,F,B.wide (y1 _) (by omega)⟩;obtain⟨p0,p1,p2⟩:=g.out w5 hbx5;replace l:=hd l;clear Q E q C J p M k s0 s1 s2 D F z B;by_cases c7:4000<1+xcL body
 ·have t7:decide (4000<1+xcL body)=true:=(by simpa using c7);have d:A09 vs body=9:=(by rw[x.out,if_pos (.inr c7)]);rw[d] at m;have t:=hd (m.out (by decide) w5 l.out);clear d;go_wp2;exact A6 t.out rfl
 have t7:decide (4000<1+xcL body)=false:=(by simpa using c7);have d:A09 vs body=0:=(by rw[x.out,if_neg (by omega)]);have hy:=hd (hyes.out d);replace d:=hd d;clear m;go_wp2_with (fail);refine hime.out d.out hpk hnm5 _ ?_;intro w6 v6;have hBel6:=hd (l.out.trans (v6.below (by omega)));clear v6 hpk hnm5 l;go_wp2;exact A6 (hy.out _ hBel6.out) rfl
theorem B4q (B b:Nat)(e:List VL)(w:WD)(h:Lib.BuilderAt 160 5 B b (.pointer (some ⟨b,0,none⟩)) e w)(f:0<e.length){s:Nat}{v:VL}(ns:List Int)(l:w.ownsRow s 5 1 v ns.length (O0 ns))(a:e.length+ns.length≤1000000)(i:B≤w.heap.size)(R:RP)(c:∀w',Lib.BuilderAt 160 5 B b (.pointer (some ⟨b,0,none⟩)) (e++O0 ns) w'→Below B w w'→R (.returned (.tuple #[.int .i64 ns.length,.nilIface])) w'):Calls Tryz.prog 78 #[.pointer (some ⟨b,0,none⟩),v] w R:=by
 obtain⟨x,q,rfl,y,t⟩:=H5 l;by_cases r:0<ns.length
 ·obtain⟨g,rfl,m,n,p⟩:=t r;exact A6j B b e w h g ns.length q ns rfl p a i R c
 ·have:ns=[]:=List.eq_nil_of_length_eq_zero (by omega);subst this;rcases l.2 with ⟨d,_⟩|⟨g,cap,cur,d,_⟩
  ·injection d with d _ k;subst d k;exact B32 B b e w h f R (fun w' m n=>c w' (by simpa[O0] using m) n)
  ·injection d with d _ k;subst d k;exact A6j B b e w h g 0 _ [] rfl (fun j u o=>by simp[O0] at o) a i R c
theorem B4a {lo bm:Nat}{w:WD}{vs:List Vd}{bs:List Nat}{body:Sl}{xs:List VL}{vo uo bo:Option Addr}{vc n2 c2 P:Nat}{f:Nat→List Int}{q:Bool}(h:PgK lo w.heap.size w vs bs body xs (.slice vo vs.length vc) (.slice bo body.len P))(hnm:U0 w bm vs.length (M3 vs bs))(hlow:∀v∈vs,O9 v.name)(ak:∀v∈vs,wtV v=true∧v.role<3∧v.kind≤3)(hvl:N4 vs≤60)(hbl:body.len≤1000000)(hw:A0y vs ((B8 vs).length:Int) body f q)(hcode:(f 0).length≤60000)(hin:∀n∈f 0,0≤n∧n≤255)(R:RP)(fin:∀w',Vf lo w w'→R (.returned (.string ⟨(mkB++u8L (A3s (B8 vs++(if q=true then [8] else [])) (f 0++[0]))).toArray⟩)) w'):Calls Tryz.prog 46 #[.agg #[.slice vo vs.length vc,.slice uo n2 c2,.slice bo body.len P],.map (some bm)] w R:=by
 have K:Below w.heap.size w (w.alloc (Obj.cells #[.slice vo vs.length vc,.slice uo n2 c2,.slice bo body.len P] 87)):=(Below.refl _ w).alloc (y1 _) _;have af:=A5 h.vown (fun j _ _ Y=>K.block j Y);have aj:=h.vars.keep (fun b _ _ hc=>K.block b (z1.1 hc).1);replace fin:=hd fin;have hcl:=A0v vs (fun v hv=>(ak v hv).1);have hlv:=A0s vs (fun v hv=>(ak v hv).1);go_enter Tryz.func46,Tryz.ntmps46;go_wp2_with (fail);refine A7d af aj ak (by omega) _ ?_;intro w1 cv X V c;have hz1:=X.size;rw[z4] at hz1;have ah:w1.heap[w.heap.size]? =some (.cells #[.slice vo vs.length vc,.slice uo n2 c2,.slice bo body.len P] 87):=(X.tag A2 (by decide)).trans A2;have I:Vf lo w w1:=(Vf.of_below K).trans X;have ae:U0 w1 bm vs.length (M3 vs bs):=I.nm hnm;have hbo1:w1.ownsRow lo 240 1 (.slice bo body.len P) body.len xs:=A2T h.bown (fun b cur hc=>I.tag hc (by decide));have hbd1:G1 (kE vs) (Value.slice bo body.len P).ownBlock body lo w.heap.size w1 xs:=h.body.keep2 (fun b cur T _ hT' _ _ _ hc=>I.tag hc hT');obtain⟨co,cc,rfl,hcc,hco⟩:=H5 c;have j1:IntKind.u8.wrap ((B8 vs).length:Int)=((B8 vs).length:Int):=A8w (by omega) (by omega);have u2:w1.cell? ⟨w.heap.size,2,none⟩=some (.slice bo body.len P):=A1 ah rfl;have hclen:(B8 vs).length≤60:=(by omega);have O:∀n∈B8 vs,0≤n∧n≤255:=by
  have:∀(l:List Vd),(∀v∈l,v.role<3∧v.kind≤3)→∀n∈B8 l,0≤n∧n≤255:=by
   intro l;induction l with
   |nil=>intro _ n d;simp[B8] at d
   |cons v t ih=>
    intro hl n d;simp only[B8,z6] at d;rcases d with d|d
    ·have:=List.eq_of_mem_replicate d;subst this;have:=hl v (List.mem_cons_self ..);unfold Z1;split<;>omega
    ·exact ih (fun u hu=>hl u (List.mem_cons_of_mem _ hu)) n d
  exact this vs (fun v hv=>(ak v hv).2)
 clear hcl hlv hvl;generalize B8 vs=CS at*;have hlz:w.heap.size<w1.heap.size:=(by omega);have hW0:Wr (w1.heap.size+1) w1.heap.size bm (I6 vs) vs bs (CS.length:Int) false (.slice none 0 0) [] (w1.alloc (Obj.cells #[.map (some bm),.slice none 0 0,.int .u8 (CS.length:Int),.bool false] 155)):=(by refine⟨R5 A2 rfl (fun i hi=>?_),World.ownsRow_nil _ _ _ _,Nat.lt_succ_self _,by simp,ae.keep (z2 _ _ _ ae.lt),(V.low (Nat.zero_le _)).keep (fun b _ _ hc=>z2 _ _ _ (z1.1 hc).1),hlow,Nat.zero_le _⟩;have:i=0∨i=1∨i=2∨i=3:=(by omega);rcases this with rfl|rfl|rfl|rfl<;>rfl);have hboW:=A5 (w':=w1.alloc (Obj.cells #[.map (some bm),.slice none 0 0,.int .u8 (CS.length:Int),.bool false] 155)) hbo1 (fun j _ _ Y=>z2 _ _ _ Y);have hbdW:=hbd1.keep (w':=w1.alloc (Obj.cells #[.map (some bm),.slice none 0 0,.int .u8 (CS.length:Int),.bool false] 155)) (fun b _ _ _ _ h2 _ _=>z2 _ _ _ (by omega));have ag:∀j,(Value.slice co CS.length cc).ownBlock=some j→w.heap.size+1≤j∧j<w1.heap.size:=fun j Y=>by have:=c.lt j Y;simpa using this
 replace c:=hd c;replace ah:=hd ah;replace I:=hd I;clear X V ae hbo1 hbd1 af aj K;go_wp2_with (fail);refine V2 hw hbl hW0 hboW hbdW (by omega) (by simp only[z7,z5];omega) _ ?_;intro w2 cv2 h2 S;simp only[z7,z5,Bool.false_or] at h2;have hz2:=S.size;rw[z4] at hz2;have hcr2:=A5 (w':=w2) (c.out.alloc (Obj.cells #[.map (some bm),.slice none 0 0,.int .u8 (CS.length:Int),.bool false] 155)) (fun j Y _ hjs=>S.block j hjs (by have:=ag j Y;omega) (by simp[Value.ownBlock]));have hvfB:Vf lo w w2:=I.out.trans ⟨S.os,S.tape,S.output,by omega,fun b hb _=>(S.block b (by simp;omega) (by omega) (by simp[Value.ownBlock])).trans (z2 _ _ _ hb)⟩;generalize hF:f 0=F at*;generalize hbw:w1.heap.size=bw at*;replace hF:=hd hF;replace hbw:=hd hbw;clear S hW0 hboW hbdW hw u2;go_wp2_with (fail);have hgg:(w2.alloc (Obj.cells #[.int .u8 0] 5)).heap[w2.heap.size]? =some (.cells (O0 [0]).toArray 5):=A2;refine N7 (h2.alloc _) [0] w2.heap.size 1 1 rfl hgg (by simp only[z3,z5];omega) _ ?_;intro w3 cv3 h3 Q;have hz3:=Q.size;rw[z4] at hz3;have D:=A5 (w':=w3) (hcr2.alloc (Obj.cells #[.int .u8 0] 5)) (fun j Y _ hjs=>Q.block j hjs (by have:=ag j Y;omega) (fun e=>by have:=(h2.own.lt j e).1;have:=ag j Y;omega));have L:Vf lo w w3:=hvfB.more Q.os Q.tape Q.output (by omega) (fun b hb=>(Q.block b (by simp;omega) (by omega) (fun e=>by have:=(h2.own.lt b e).1;omega)).trans (z2 _ _ _ (by omega)));clear Q h2 hvfB hgg;have k3:w3.cell? ⟨bw,3,none⟩=some (.bool q):=h3.row.cell (i:=3) (by omega);have k1:w3.cell? ⟨bw,1,none⟩=some cv3:=h3.row.cell (i:=1) (by omega);have lbw:bw<w3.heap.size:=h3.row.lt;obtain⟨ko,kc,rfl,hkc,hko⟩:=H5 h3.own;obtain⟨Z,rfl,hkg1,hkg2,J⟩:=hko (by simp);have ai:(F++[0]).length=F.length+1:=(by simp);replace h3:=hd h3;replace J:=hd J;replace L:=hd L;have hCode:∃y,y=F++[0]:=⟨_,rfl⟩;obtain⟨y,ac⟩:=hCode;rw[←ac] at hkc ai k1 J h3;replace ac:=hd ac;have hcd1:y.length<65536:=(by omega);clear ai;simp only[z4] at D;replace D:=hd D;cases q;case' true=>
  go_wp2_with (first|(go_at_call 75;refine A1M _ 2 2 (by omega) (by omega) _ ?_)|(at_builtin;refine I5 _ rfl _ _ 133 rfl (w.heap.size+1) 5 _ 1 1 A2S A6i rfl (by decide) _ CS.length (O0 CS) rfl (by exact D.out.alloc _) ⟨w3.heap.size,0,none⟩ 1 1 (O0 [8]) rfl rfl (by exact S5 (A6r (by simp))) (A7I [8]) (by unfold maxLen;omega) (by omega) (by simp;omega) ?_;intro vz k o s ab;obtain⟨aoz,cpz,rfl⟩:=A7 o;replace o:=hd o;replace s:=hd s;replace ab:=hd ab));have hkz:∀b,b<w3.heap.size→(b≤w.heap.size∨bw≤b)→k.heap[b]? =w3.heap[b]? :=fun b hb hne=>(s.out.block b (by simp;omega) (fun e=>by have:=ag b e.symm;omega)).trans (z2 _ _ _ hb);have hzz:w3.heap.size≤k.heap.size:=(by have:=s.out.size;simp at this;omega);obtain⟨g,A⟩:∃g,g=CS++(if true=true then [8] else []):=⟨_,rfl⟩;have r:CS.length+1=g.length:=(by rw[A];simp);have huz:O0 CS++O0 [8]=O0 g:=(by rw[A];unfold O0;rw[y0];rfl);rw[huz,r] at o;rw[r];have m:∀n∈g,0≤n∧n≤255:=fun n d=>by
   rw[A,if_pos rfl,z6] at d;rcases d with d|d
   ·exact O n d
   ·simp only[z8,z9,or_false] at d;omega
  have H:Vf lo w k:=L.out.more s.out.os s.out.tape s.out.output (by omega) (fun b hb=>hkz b (by omega) (by omega));have U:k.cell? ⟨bw,1,none⟩=some (.slice (some ⟨Z,0,none⟩) y.length kc):=(y2 (w:=w3) (a:=⟨bw,1,none⟩) (hkz bw lbw (by omega))).trans k1;have G:∀j u,(O0 y)[j]? =some u→k.cell? ⟨Z,j,none⟩=some u:=fun j u hu=>(y2 (w:=w3) (a:=⟨Z,j,none⟩) (hkz Z (by omega) (by omega))).trans (J.out j u hu);have ad:bw<k.heap.size:=(by omega);have hkgl:Z<k.heap.size:=(by omega);have hczl:g.length≤61:=(by omega);replace A:=hd A;replace G:=hd G;replace H:=hd H;clear huz s ab
 case' false=>
  obtain⟨g,A⟩:∃g,g=CS++(if false=true then [8] else []):=⟨_,rfl⟩;have r:CS=g:=(by rw[A];simp);rw[r] at O hclen j1;have o:Hid (w3.ownsRow (w.heap.size+1) 5 1 (.slice co g.length cc) g.length (O0 g)):=(by rw[←r];exact D);have m:=O;have H:=L.out;have U:=k1;have G:=J.out;have ad:=lbw;have hkgl:=hkg2;have hczl:g.length≤61:=(by omega);rw[r];replace r:=hd r;replace A:=hd A;replace O:=hd O;replace m:=hd m;replace U:=hd U;replace G:=hd G;replace H:=hd H;go_wp2_with (fail);replace m:=m.out;replace U:=U.out;clear D c hcc hco ag L J;generalize w3=k at*;generalize co=aoz at*;generalize cc=cpz at*
 all_goals
  have j1z:IntKind.u8.wrap (g.length:Int)=(g.length:Int):=A8w (by omega) (by omega)
  refine C0m k.heap.size k.heap.size [] ⟨#[83,76,85,73,67,69]⟩ _ (C0D k) (by decide) (by simp) _ ?_
  intro w4 h4 hb4
  rw[z7,A42] at h4
  have M:Below k.heap.size k w4:=((Below.refl _ k).alloc (y1 _) _).trans hb4
  have hz4:=M.size
  have m4:(Lib.byteCells mkB).length=6:=by decide
  replace M:=hd M
  clear hb4
  go_wp2_with (fail)
  refine B89 _ _ _ _ _ h4 (by rw[m4];decide) hz4 _ ?_
  intro w5 h5 hb5
  have C:Below k.heap.size k w5:=M.out.trans hb5
  have hz5:=C.size
  clear hb5 h4 M
  have hcg5:=A5 (w':=w5) o.out (fun j _ _ Y=>C.block j Y)
  replace C:=hd C
  go_wp2_with (fail)
  refine B4q _ _ _ _ h5 (by simp) g hcg5 (by rw[z0,m4];simp;omega) hz5 _ ?_
  intro w6 h6 hb6
  have B:Below k.heap.size k w6:=C.out.trans hb6
  have hz6:=B.size
  have k16:w6.cell? ⟨bw,1,none⟩=some (.slice (some ⟨Z,0,none⟩) y.length kc):=(B.cell (p:=⟨bw,1,none⟩) ad).trans U
  clear hb6 h5 C hcg5
  replace B:=hd B
  go_wp2_with (fail)
  refine A3B _ y.length hcd1 _ ?_
  have N:Below k.heap.size k (w6.alloc (Obj.cells (O0 (two y.length)).toArray 5)):=B.out.alloc hz6 _
  have h7:Lib.BuilderAt 160 5 k.heap.size k.heap.size (.pointer (some ⟨k.heap.size,0,none⟩)) (Lib.byteCells mkB++[.int .u8 (g.length:Int)]++O0 g) (w6.alloc (Obj.cells (O0 (two y.length)).toArray 5)):=by
   obtain⟨p1,v,p2,p3,p4⟩:=h6;exact⟨p1,v,(z2 _ _ _ (z1.1 p2).1).trans p2,p3.alloc _,p4⟩
  have aa:∀j u,(O0 (two y.length))[j]? =some u→(w6.alloc (Obj.cells (O0 (two y.length)).toArray 5)).cell? ⟨w6.heap.size,j,none⟩=some u:=fun j u hu=>A1 A2 (by simpa using hu)
  have k17:(w6.alloc (Obj.cells (O0 (two y.length)).toArray 5)).cell? ⟨bw,1,none⟩=some (.slice (some ⟨Z,0,none⟩) y.length kc):=A1a k16 _
  have m7:(Lib.byteCells mkB++[Value.int .u8 (g.length:Int)]++O0 g).length=7+g.length:=by
   rw[z0,z0,m4];unfold O0;simp
  generalize hW7:w6.alloc (Obj.cells (O0 (two y.length)).toArray 5)=w7 at*
  replace N:=hd N
  replace hW7:=hd hW7
  have hz7:=N.out.size
  clear h6 k16 B
  go_wp2_with (fail)
  refine A6j _ _ _ _ h7 w6.heap.size 2 2 (two y.length) rfl aa (by rw[m7];omega) hz7 _ ?_
  intro w8 h8 hb8
  have z:Below k.heap.size k w8:=N.out.trans hb8
  have hz8:=z.size
  have k18:w8.cell? ⟨bw,1,none⟩=some (.slice (some ⟨Z,0,none⟩) y.length kc):=(z.cell (p:=⟨bw,1,none⟩) ad).trans U
  have hkg8:∀j u,(O0 y)[j]? =some u→w8.cell? ⟨Z,j,none⟩=some u:=fun j u hu=>(z.cell (p:=⟨Z,j,none⟩) (show Z<k.heap.size by omega)).trans (G.out j u hu)
  replace z:=hd z
  clear hb8 h7 aa k17 N hW7
  go_wp2_with (fail)
  refine A6j _ _ _ _ h8 Z y.length kc y rfl hkg8 (by rw[z0,m7];unfold O0 two;simp;omega) hz8 _ ?_
  intro w9 h9 hb9
  have x:Below k.heap.size k w9:=z.out.trans hb9
  have hz9:=x.size
  clear hb9 h8 hkg8 k18 z
  have hbytes:Lib.byteCells mkB++[Value.int .u8 (g.length:Int)]++O0 g++O0 (two y.length)++O0 y=Lib.byteCells (mkB++u8L (A3s g y)):=by
   have e1:O0 (A3s g y)=Lib.byteCells (u8L (A3s g y)):=B0F (fun n d=>by
    unfold A3s at d;simp only[z8,z6] at d;rcases d with rfl|d|d|d
    ·omega
    ·exact m n d
    ·unfold two at d;simp only[z8,z9,or_false] at d;omega
    ·rw[ac.out] at d;simp only[z6,z8,z9,or_false] at d;rcases d with d|d
     ·exact hin n d
     ·omega)
   have e2:Lib.byteCells (mkB++u8L (A3s g y))=Lib.byteCells mkB++Lib.byteCells (u8L (A3s g y)):=(by unfold Lib.byteCells;rw[y0]);rw[e2,←e1];unfold A3s O0;simp only[List.map_cons,y0,List.append_assoc,List.cons_append,z7]
  rw[hbytes] at h9
  replace x:=hd x
  go_wp2_with (fail)
  refine B4W _ _ _ _ h9 hz9 _ ?_
  intro w10 E
  have hvf:=hd (H.out.more (w3:=w10) (x.out.trans E).os (x.out.trans E).tape (x.out.trans E).output (x.out.trans E).size (fun b hb=>(x.out.trans E).block b (by omega)))
  clear E h9
  go_wp2
  have e:=ac.out
  have e2:=hF.out
  have e3:=A.out
  refine A6 (fin.out _ hvf.out) ?_
  rw[e,e3]
  rfl
theorem B4A {vs:List Vd}{body:Sl}(d:∀v∈vs,A6o v)(c:∀v∈vs,O9 v.name)(l:∀v∈vs,wtV v=true)(f:Q9 vs [] body=true)(e:N4 vs≤60)(o:O6 body≤700)(G:C0 body≤3999):B1u vs body (A08 vs body):=by
 intro lo bm W B xs A y F z C D p k j R g;have a:∀v∈vs,1≤v.len∧v.len≤16:=fun v b=>by have:=l v b;simp only[wtV,Bool.and_eq_true,decide_eq_true_eq] at this;omega
 have t:=A0v vs l;have u:∀s,0≤B3 vs 0 s∧B3 vs 0 s≤255:=fun s=>by have:=A3w vs 0 s (fun v b=>by have:=a v b;omega) (y3 _);omega
 have n:∀s,0≤P9 vs s∧P9 vs s≤255:=fun s=>by
  unfold P9;cases q:C1 vs s with
  |none=>simp
  |some v=>have:=a v (J0 vs s v q).1;simp only;omega
 have r:=swL (vs:=vs) (sp:=((B8 vs).length:Int)) (fun v b=>by have:=a v b;omega) body [] f (by omega) (by omega);have hB:=A7r (sp:=((B8 vs).length:Int)) u n (by omega) body 0;have E:=A1t (vs:=vs) (sp:=((B8 vs).length:Int)) body 0;have x:=B0 body;have i:∀v∈vs,wtV v=true∧v.role<3∧v.kind≤3:=fun v b=>⟨l v b,by have:=(d v b).2.1;omega,(d v b).1⟩;refine B4a k j c i e (by omega) r (by omega) hB R (fun w' h=>?_);have:=g w' h;unfold A08 at this;cases m:kpL body with
 |false=>rw[m,if_neg (by decide)] at this;rw[if_neg (by decide),List.append_nil];exact this
 |true=>rw[m,if_pos rfl] at this;rw[if_pos rfl];exact this
end Go.Proofs.YtidhiaaicmfabaaGreatDoor
