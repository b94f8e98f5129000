/- Texts (its parts, joined). -/
import Derived.Test.YtidhiaaicmfabaaGreatDoorTqBB
open Nat renaming le_refl→z0
open List renaming append_assoc→z4,singleton_append→z5
namespace Go.Proofs.YtidhiaaicmfabaaGreatDoor
open Go.RowKit Go.Proofs Go.Deep
set_option maxRecDepth 100000
set_option maxHeartbeats 4000000
open World renaming size_setCell→z3,size_alloc→z6
section
variable {L:LB}{f k d:Nat}
theorem B3r (h:(B6 (A0 L k) wMI||Y8 (A0 L k))=true):pE L (f+1) k d=(D2 L k).bind (fun p=>some (.lit p.1,p.2)):=by rw[pE,if_pos h]
theorem B5K (h:(B6 (A0 L k) wMI||Y8 (A0 L k))=false)(c:O7 (A0 L k)=true):pE L (f+1) k d=(pI L f k d).bind (fun p=>some ((match p.1 with|none=>.plc (A0 L k)|some i=>.idx (A0 L k) i),p.2)):=by
 rw[pE,if_neg (by rw[h];decide),if_pos c];unfold pI;by_cases b:B6 (A0 L (k+1)) wLB=true
 ·rw[if_pos b,if_pos b];by_cases a:d<10
  ·rw[if_pos a,if_pos a];cases pE L f (k+2) (d+1) with
   |none=>rfl
   |some p=>
    simp only[Option.bind_some];split<;>rfl
  ·rw[if_neg a,if_neg a];rfl
 ·rw[if_neg b,if_neg b];rfl
def pE8 (L:LB)(f k d:Nat):Option (Ex×Nat):=
  if B6 (A0 L k) V5 then some (.tru true,k+1)
  else if B6 (A0 L k) Q0 then some (.tru false,k+1)
  else if B6 (A0 L k) wLP then pPr L f (k+1) d
  else if B6 (A0 L k) A1K then (if d<10 then pE L f (k+1) (d+1) else none).bind (fun p=>some (.neg p.1,p.2))
  else if B6 (A0 L k) R4 then (if d<10 then pE L f (k+1) (d+1) else none).bind (fun p=>some (.sho p.1,p.2))
  else if B6 (A0 L k) A3u then pDl L f (k+1) d
  else none
theorem A7s {A C:Type}{c:Prop}[Decidable c](x:Option A)(g:A→Option C):(if c then x.bind g else none)=(if c then x else none).bind g:=by split<;>rfl
theorem B7O (h:(B6 (A0 L k) wMI||Y8 (A0 L k))=false)(a:O7 (A0 L k)=false):pE L (f+1) k d=pE8 L f k d:=by rw[pE,if_neg (by rw[h];decide),if_neg (by rw[a];decide)];unfold pE8 pPr pDl;rw[←A7s,←A7s]
end
theorem O1 {L:LB}{k:Nat}{n:Int}{k':Nat}(h:D2 L k=some (n,k')):k<k':=by
 unfold D2 at h;split at h
 ·split at h
  ·injection h with h;injection h with _ h;omega
  ·cases h
 ·split at h
  ·injection h with h;injection h with _ h;omega
  ·cases h
theorem B8q {L:LB}(hL:A0f L){f:Nat}(hE:∀k,A05 L f k (fun d=>pE L f k d) 233)(k:Nat):A05 L (f+1) k (fun d=>pE L (f+1) k d) 233:=by
 intro w B bp pv d us uv h V u hk R a y;have hw0:=h.pa.row.lt;have em:wMI.toList=[45]:=(by kernel_rfl);obtain⟨ha,hz⟩:=hL.next k;change ∀e k',pE L (f+1) k d=some (e,k')→_ at a;change pE L (f+1) k d=none→_ at y;replace a:=hd a;replace y:=hd y;go_enter Tryz.func233,Tryz.ntmps233;go_wp2_with (fail);refine A7c h _ ?_;intro w1 h1 z;have O:=h.er V z;cases t1:((A0 L k).toList==[45]) with
 |true=>
  have J:=B3r (L:=L) (f:=f) (k:=k) (d:=d) (by unfold B6;rw[em,t1];simp);replace z:=hd z;go_wp2_with (fail);refine B7e hL h1 O _ ?_ ?_
  ·intro n k' e w2 t l;have P:=O1 e;have b:=hd (a.out (.lit n) k' (by rw[J,e];rfl) P);have S:=hd (z.out.trans l);replace t:=hd t;clear z l;go_wp2;exact A6 (b.out _ (.iface 331 (.agg #[.int .i64 n])) uv (by simpa[C7] using t.out) S.out rfl) rfl
  ·intro e w2 n t l;have b:=hd (y.out (by rw[J,e];rfl));have S:=hd (z.out.trans l);replace t:=hd t;clear z l;go_wp2;exact A6 (b.out _ (.iface 331 (.agg #[.int .i64 n])) us uv t.out S.out ⟨_,_,rfl⟩) rfl
 |false=>
  cases t2:Y8 (A0 L k) with
  |true=>
   obtain⟨z1,z2⟩:=A2g t2;have J:=B3r (L:=L) (f:=f) (k:=k) (d:=d) (by unfold B6;rw[em,t2];simp);replace z:=hd z;go_wp2_with (fail);refine A2Z _ _ z1 z2 _ ?_;go_wp2_with (fail);refine B7e hL h1 O _ ?_ ?_
   ·intro n k' e w2 t l;have P:=O1 e;have b:=hd (a.out (.lit n) k' (by rw[J,e];rfl) P);have S:=hd (z.out.trans l);replace t:=hd t;clear z l;go_wp2;exact A6 (b.out _ (.iface 331 (.agg #[.int .i64 n])) uv (by simpa[C7] using t.out) S.out rfl) rfl
   ·intro e w2 n t l;have b:=hd (y.out (by rw[J,e];rfl));have S:=hd (z.out.trans l);replace t:=hd t;clear z l;go_wp2;exact A6 (b.out _ (.iface 331 (.agg #[.int .i64 n])) us uv t.out S.out ⟨_,_,rfl⟩) rfl
  |false=>
   have hA:(B6 (A0 L k) wMI||Y8 (A0 L k))=false:=(by unfold B6;rw[em,t1,t2];rfl);have hno:=B2u t2;go_wp2_with (fail);refine A0L _ _ hno _ ?_;go_wp2_with (fail);refine A1n _ _ ha (by omega) _ ?_;intro w2 b2;have t:=h1.bel b2;have l:=z.trans (Fu.of_below b2);have he2:=h.er V l;clear z b2 h1 O;cases t3:O7 (A0 L k) with
   |true=>
    have J:=B5K (L:=L) (f:=f) (k:=k) (d:=d) hA t3;replace l:=hd l;go_wp2_with (fail);refine B3w (hE (k+2)) t he2 u (by omega) (A0N t3 ha) _ ?_ ?_
    ·intro x k' e H w3 v K r I hx3;have hzz:=l.out.size;cases x with
     |none=>
      have M:v=.nilIface:=hx3;subst M;have b:=hd (a.out (.plc (A0 L k)) k' (by rw[J,e];rfl) H);have N:=hd (l.out.trans I);simp only[A2u,List.append_nil] at r;replace r:=hd r;clear l I ha hz;generalize A0 L k=s at*;go_wp2;exact A6 (b.out _ (.iface 305 (.agg #[.string s,.nilIface])) K r.out N.out rfl) rfl
     |some i=>
      obtain⟨⟨ti,ui,rfl⟩,hx4⟩:=hx3;have b:=hd (a.out (.idx (A0 L k) i) k' (by rw[J,e];rfl) H);have N:=hd (l.out.trans I);have hx5:=hd (hx4.wide hzz (z0 _));simp only[A2u,z4,z5] at r;replace r:=hd r;clear l I hx4 ha hz;generalize A0 L k=s at*;go_wp2;exact A6 (b.out _ (.iface 305 (.agg #[.string s,.iface ti ui])) K r.out N.out ⟨_,rfl,hx5.out⟩) rfl
    ·intro e w3 ti ui us3 K r I;have b:=hd (y.out (by rw[J,e];rfl));have N:=hd (l.out.trans I);replace r:=hd r;clear l I ha hz;generalize A0 L k=s at*;go_wp2;exact A6 (b.out _ (.iface 305 (.agg #[.string s,.iface ti ui])) us3 K r.out N.out ⟨_,_,rfl⟩) rfl
   |false=>
    have J:=B7O (L:=L) (f:=f) (k:=k) (d:=d) hA t3;rw[J] at a y;replace l:=hd l;go_wp2_with (fail);refine A38 (s:=V5) t (by decide) _ ?_ ?_
    ·intro e w3 r g3;have m:pE8 L f k d=some (.tru true,k+1):=(by unfold pE8;rw[if_pos (T9 e)]);have b:=hd (a.out (.tru true) (k+1) m (by omega));have N:=hd (l.out.trans g3);replace r:=hd r;clear g3 l;go_wp2;exact A6 (b.out _ (.iface 333 (.agg #[.bool true])) uv (by simpa[C7] using r.out) N.out rfl) rfl
    ·intro T w3 r g3;have I:=hd (l.out.trans g3);clear g3 l;go_wp2_with (fail);refine A38 (s:=Q0) r (by decide) _ ?_ ?_
     ·intro e w4 h4 g4;have m:pE8 L f k d=some (.tru false,k+1):=(by unfold pE8;rw[if_neg (by rw[show B6 (A0 L k) V5=false from T];decide),if_pos (T9 e)]);have b:=hd (a.out (.tru false) (k+1) m (by omega));have F4:=hd (I.out.trans g4);replace h4:=hd h4;clear g4 I;go_wp2;exact A6 (b.out _ (.iface 333 (.agg #[.bool false])) uv (by simpa[C7] using h4.out) F4.out rfl) rfl
     ·intro n4 w4 h4 g4;have f4:=hd (I.out.trans g4);clear g4 I;go_wp2_with (fail);refine A38 (s:=wLP) h4 (by decide) _ ?_ ?_
      ·intro e w5 h5 g5;have m:pE8 L f k d=pPr L f (k+1) d:=(by unfold pE8;rw[if_neg (by rw[show B6 (A0 L k) V5=false from T];decide),if_neg (by rw[show B6 (A0 L k) Q0=false from n4];decide),if_pos (T9 e)]);rw[m] at a y;have X:=hd (f4.out.trans g5);have he5:=h.er V X.out;have F:=X.out.size;clear g5 f4;go_wp2_with (fail);refine B9n (k:=k+1) hE h5 he5 u (by omega) _ ?_ ?_
       ·intro e k' q H Q v c j o g;change pPr L f (k+1) d=_ at q;obtain⟨A,G,rfl⟩:=g.iface;have b:=hd (a.out e k' (by rw[q]) (by omega));have D:=hd (X.out.trans o);have E:=hd (g.wide F (z0 _));replace j:=hd j;clear o g X h5;go_wp2;exact A6 (b.out _ (.iface A G) c j.out D.out E.out) rfl
       ·intro q Q v C c j o M;change pPr L f (k+1) d=_ at q;obtain⟨A,G,rfl⟩:=M;have b:=hd (y.out (by rw[q]));have D:=hd (X.out.trans o);replace j:=hd j;clear o X h5;go_wp2;exact A6 (b.out _ (.iface A G) C c j.out D.out ⟨_,_,rfl⟩) rfl
      ·intro n5 w5 h5 g5;have f5:=hd (f4.out.trans g5);clear g5 f4;go_wp2_with (fail);refine A38 (s:=A1K) h5 (by decide) _ ?_ ?_
       ·intro e w6 h6 g6;have m:pE8 L f k d=(if d<10 then pE L f (k+1) (d+1) else none).bind (fun p=>some (.neg p.1,p.2)):=(by unfold pE8;rw[if_neg (by rw[show B6 (A0 L k) V5=false from T];decide),if_neg (by rw[show B6 (A0 L k) Q0=false from n4];decide),if_neg (by rw[show B6 (A0 L k) wLP=false from n5];decide),if_pos (T9 e)]);rw[m] at a y;have U:=hd (f5.out.trans g6);have he6:=h.er V U.out;have F:=U.out.size;clear g6 f5;go_wp2_with (fail);refine A50 (hE (k+1)) h6 he6 u (by omega) _ ?_ ?_
        ·intro e k' q H Q v c j o g;change (if d<10 then pE L f (k+1) (d+1) else none)=_ at q;obtain⟨A,G,rfl⟩:=g.iface;have b:=hd (a.out (.neg e) k' (by rw[q];rfl) (by omega));have D:=hd (U.out.trans o);have E:=hd (g.wide F (z0 _));replace j:=hd j;clear o g U h6;go_wp2;exact A6 (b.out _ (.iface 335 (.agg #[.iface A G])) c j.out D.out ⟨_,rfl,E.out⟩) rfl
        ·intro q Q v C c j o M;change (if d<10 then pE L f (k+1) (d+1) else none)=_ at q;obtain⟨A,G,rfl⟩:=M;have b:=hd (y.out (by rw[q];rfl));have D:=hd (U.out.trans o);replace j:=hd j;clear o U h6;go_wp2;exact A6 (b.out _ (.iface 335 (.agg #[.iface A G])) C c j.out D.out ⟨_,_,rfl⟩) rfl
       ·intro n6 w6 h6 g6;have f6:=hd (f5.out.trans g6);clear g6 f5;go_wp2_with (fail);refine A38 (s:=R4) h6 (by decide) _ ?_ ?_
        ·intro e w7 h7 g7;have m:pE8 L f k d=(if d<10 then pE L f (k+1) (d+1) else none).bind (fun p=>some (.sho p.1,p.2)):=(by unfold pE8;rw[if_neg (by rw[show B6 (A0 L k) V5=false from T];decide),if_neg (by rw[show B6 (A0 L k) Q0=false from n4];decide),if_neg (by rw[show B6 (A0 L k) wLP=false from n5];decide),if_neg (by rw[show B6 (A0 L k) A1K=false from n6];decide),if_pos (T9 e)]);rw[m] at a y;have Y:=hd (f6.out.trans g7);have he7:=h.er V Y.out;have F:=Y.out.size;clear g7 f6;go_wp2_with (fail);refine A50 (hE (k+1)) h7 he7 u (by omega) _ ?_ ?_
         ·intro e k' q H Q v c j o g;change (if d<10 then pE L f (k+1) (d+1) else none)=_ at q;obtain⟨A,G,rfl⟩:=g.iface;have b:=hd (a.out (.sho e) k' (by rw[q];rfl) (by omega));have D:=hd (Y.out.trans o);have E:=hd (g.wide F (z0 _));replace j:=hd j;clear o g Y h7;go_wp2;exact A6 (b.out _ (.iface 336 (.agg #[.iface A G])) c j.out D.out ⟨_,rfl,E.out⟩) rfl
         ·intro q Q v C c j o M;change (if d<10 then pE L f (k+1) (d+1) else none)=_ at q;obtain⟨A,G,rfl⟩:=M;have b:=hd (y.out (by rw[q];rfl));have D:=hd (Y.out.trans o);replace j:=hd j;clear o Y h7;go_wp2;exact A6 (b.out _ (.iface 336 (.agg #[.iface A G])) C c j.out D.out ⟨_,_,rfl⟩) rfl
        ·intro n7 w7 h7 g7;have f7:=hd (f6.out.trans g7);clear g7 f6;go_wp2_with (fail);refine A38 (s:=A3u) h7 (by decide) _ ?_ ?_
         ·intro e w8 h8 g8;have m:pE8 L f k d=pDl L f (k+1) d:=(by unfold pE8;rw[if_neg (by rw[show B6 (A0 L k) V5=false from T];decide),if_neg (by rw[show B6 (A0 L k) Q0=false from n4];decide),if_neg (by rw[show B6 (A0 L k) wLP=false from n5];decide),if_neg (by rw[show B6 (A0 L k) A1K=false from n6];decide),if_neg (by rw[show B6 (A0 L k) R4=false from n7];decide),if_pos (T9 e)]);rw[m] at a y;have Z:=hd (f7.out.trans g8);have he8:=h.er V Z.out;have F:=Z.out.size;clear g8 f7;go_wp2_with (fail);refine B6P (k:=k+1) hL hE h8 he8 u (by omega) _ ?_ ?_
          ·intro e k' q H Q v c j o g;change pDl L f (k+1) d=_ at q;obtain⟨A,G,rfl⟩:=g.iface;have b:=hd (a.out e k' (by rw[q]) (by omega));have D:=hd (Z.out.trans o);have E:=hd (g.wide F (z0 _));replace j:=hd j;clear o g Z h8;go_wp2;exact A6 (b.out _ (.iface A G) c j.out D.out E.out) rfl
          ·intro q Q v C c j o M;change pDl L f (k+1) d=_ at q;obtain⟨A,G,rfl⟩:=M;have b:=hd (y.out (by rw[q]));have D:=hd (Z.out.trans o);replace j:=hd j;clear o Z h8;go_wp2;exact A6 (b.out _ (.iface A G) C c j.out D.out ⟨_,_,rfl⟩) rfl
         ·intro n8 w8 h8 g8;have f8:=hd (f7.out.trans g8);clear g8 f7;have m:pE8 L f k d=none:=(by unfold pE8;rw[if_neg (by rw[show B6 (A0 L k) V5=false from T];decide),if_neg (by rw[show B6 (A0 L k) Q0=false from n4];decide),if_neg (by rw[show B6 (A0 L k) wLP=false from n5];decide),if_neg (by rw[show B6 (A0 L k) A1K=false from n6];decide),if_neg (by rw[show B6 (A0 L k) R4=false from n7];decide),if_neg (by rw[show B6 (A0 L k) A3u=false from n8];decide)]);have b:=hd (y.out m);go_wp2_with (fail);refine A4R h8 _ ?_;intro w9 h9 g9;have F9:=hd (f8.out.trans g9);replace h9:=hd h9;clear g9 f8;go_wp2;exact A6 (b.out _ (.iface 333 (.agg #[.bool false])) us uv h9.out F9.out ⟨_,_,rfl⟩) rfl
theorem A9C {L:LB}(b:A0f L)(f:Nat):∀k:Nat,A05 L f k (fun d=>pE L f k d) 233:=by
 induction f with
 |zero=>
  intro k w B bp pv d us uv h g a e R c i;have:=h.pa.le;omega
 |succ f ih=>exact B8q b ih
section
theorem C8 {A C:Type}{o:Option A}{g:A→Option C}{c:C}(h:o.bind g=some c):∃a,o=some a∧g a=some c:=by
 cases o with
 |none=>cases h
 |some a=>exact⟨a,rfl,h⟩
theorem A2p {A C:Type}{o:Option (A×Nat)}{g:Nat→Option C}{c:C}(h:(o.map (·.2)).bind g=some c):∃a k,o=some (a,k)∧g k=some c:=by
 cases o with
 |none=>cases h
 |some p=>exact⟨p.1,p.2,rfl,h⟩
theorem C9 {L:LB}{s:BA}{k k':Nat}(h:xS L s k=some k'):B6 (A0 L k) s=true∧k'=k+1:=by
 unfold xS at h;split at h
 ·rename_i e;injection h with h;exact⟨e,h.symm⟩
 ·cases h
theorem A17 {L:LB}{k k':Nat}(h:xN L k=some k'):O7 (A0 L k)=true∧k'=k+1:=by
 unfold xN at h;split at h
 ·rename_i e;injection h with h;exact⟨e,h.symm⟩
 ·cases h
def xE (L:LB)(k d:Nat):Option (Ex×Nat):=pE L (L.length+1) k d
def A7j (L:LB)(sl:Nat→Nat→Option (Sl×Nat))(k d:Nat):Option (Sl×Nat):=if B6 (A0 L k) A1A then sl (k+1) d else some (.nil,k)
def A1u (L:LB)(sl:Nat→Nat→Option (Sl×Nat))(k d:Nat):Option (Sl×Nat):=
 (((A7j L sl k d).map (·.2)).bind (xS L K5)).bind (fun k'=>(A7j L sl k d).bind (fun p=>some (p.1,k')))
def A6T (L:LB)(sl:Nat→Nat→Option (Sl×Nat))(k d:Nat):Option (Q3×Nat):=
 let st1:=if d<10 then some k else none
 let r2:=st1.bind (fun k=>xE L k (d+1))
 let st3:=(r2.map (·.2)).bind (xS L A1B)
 let r4:=st3.bind (fun k=>sl k (d+1))
 let r5:=(r4.map (·.2)).bind (fun k=>A1u L sl k (d+1))
 r5.bind (fun o=>r4.bind (fun t=>r2.bind (fun c=>some (.ife c.1 t.1 o.1,o.2))))
def SlU (r:Option (Sl×Nat))(lo hi:Nat)(w:WD)(a:Option Addr)(n b:Nat):Prop:=∃xs,C2 w lo hi 240 1 (.slice a n b) n xs∧∀l k',r=some (l,k')→n=l.len∧G1 (fun _=>0) (Value.slice a n b).ownBlock l lo hi w xs
theorem SlU.keep {r:Option (Sl×Nat)}{lo hi:Nat}{w w':WD}{a:Option Addr}{n b:Nat}(h:SlU r lo hi w a n b)(k:A02 w w' lo hi none):SlU r lo hi w' a n b:=by obtain⟨xs,d,c⟩:=h;exact⟨xs,d.keep (by decide) k,fun l k' e=>⟨(c l k' e).1,(c l k' e).2.keep (k.sub (z0 _) (z0 _) (by simp))⟩⟩
theorem SlU.wide {r:Option (Sl×Nat)}{lo hi lo' hi':Nat}{w:WD}{b:Option Addr}{n c:Nat}(h:SlU r lo hi w b n c)(d:lo'≤lo)(f:hi≤hi'):SlU r lo' hi' w b n c:=by obtain⟨xs,g,a⟩:=h;exact⟨xs,g.wide d f,fun l k' e=>⟨(a l k' e).1,(a l k' e).2.wide d f⟩⟩
def NmU (r:Option (Sl×Nat))(us a:LB):Prop:=∀l k',r=some (l,k')→a=us++E0 l
def SlA (L:LB)(sl:Nat→Nat→Option (Sl×Nat))(f:Nat):Prop:=∀{w:WD}{B bp:Nat}{pv:VL}{k d:Nat}{us:LB}{uv:VL},Ps B bp pv L k (d:Int) us uv w→Er bp w→d≤10→L.length<k+f→∀(R:RP),(∀w' e n c a b,Pu B bp pv L (d:Int) ((sl k d).map (·.2)) a b w'→Fu bp uv b w w'→SlU (sl k d) w.heap.size w'.heap.size w' e n c→NmU (sl k d) us a→(∀l k',sl k d=some (l,k')→k≤k')→R (.returned (.slice e n c)) w')→Calls Tryz.prog 133 #[.pointer (some ⟨bp,0,none⟩)] w R
theorem B5r {B bp:Nat}{pv:VL}{L:LB}{d:Int}{us:LB}{uv:VL}{w:WD}(h:Pn B bp pv L d us uv w)(R:RP)(a:∀w',Pn B bp pv L d us uv w'→Fu bp uv uv w w'→R (.returned (.tuple #[.nilIface,.bool false])) w'):Calls Tryz.prog 200 #[.pointer (some ⟨bp,0,none⟩)] w R:=by replace a:=hd a;go_enter Tryz.func200,Tryz.ntmps200;go_wp2_with (fail);refine A7V h _ ?_;intro w1 j c;go_wp2_with (fail);refine A2d _ ⟨#[]⟩ (.inl rfl) _ ?_;go_wp2_with (fail);refine A3k (s:=wIF) j (by kernel_rfl) _ ?_;intro w3 f g;go_wp2_with (fail);refine A3k (s:=J5) f (by kernel_rfl) _ ?_;intro m i k;go_wp2_with (fail);refine A3k (s:=X3) i (by kernel_rfl) _ ?_;intro n b e;have l:=hd (((c.trans g).trans k).trans e);replace b:=hd b;clear c g k e j f i;go_wp2;exact A6 (a.out _ b.out l.out) rfl
theorem B56 {B bp:Nat}{pv:VL}{L:LB}{d:Int}{us:LB}{uv:VL}{w:WD}(h:Pn B bp pv L d us uv w)(R:RP)(a:∀w',Pn B bp pv L d us uv w'→Fu bp uv uv w w'→R (.returned (.slice none 0 0)) w'):Calls Tryz.prog 133 #[.pointer (some ⟨bp,0,none⟩)] w R:=by
 replace a:=hd a;go_enter Tryz.func133,Tryz.ntmps133;go_wp2_with (fail);refine B5r h _ ?_;intro w1 f b;replace f:=hd f;replace b:=hd b;go_wp2;go_loopg [3,4,5] 1 (fun _ lv _ e wr=>lv=.slice none 0 0∧e=.bool false∧Pn B bp pv L d us uv wr∧Fu bp uv uv w wr);case atStart=>exact⟨rfl,rfl,f.out,b.out⟩
 case round=>
  obtain⟨rfl,rfl,g,c⟩:=hrel;replace g:=hd g;replace c:=hd c;go_wp2;exact A6 (a.out _ g.out c.out) rfl
section
variable {B bp:Nat}{pv:VL}{L:LB}{st:Option Nat}{d:Nat}{us:LB}{uv:VL}{w:WD}{sl:Nat→Nat→Option (Sl×Nat)}{f:Nat}
theorem A4y (x:SlA L sl f)(h:Pu B bp pv L (d:Int) st us uv w)(v:Er bp w)(u:∀k,st=some k→d≤10∧L.length<k+f)(R:RP)(m:∀w' p n o i j,Pu B bp pv L (d:Int) ((st.bind (fun k=>sl k d)).map (·.2)) i j w'→Fu bp uv j w w'→SlU (st.bind (fun k=>sl k d)) w.heap.size w'.heap.size w' p n o→NmU (st.bind (fun k=>sl k d)) us i→(∀k l k',st=some k→st.bind (fun k=>sl k d)=some (l,k')→k≤k')→R (.returned (.slice p n o)) w'):Calls Tryz.prog 133 #[.pointer (some ⟨bp,0,none⟩)] w R:=by
 cases st with
 |none=>exact B56 (h:Pn B bp pv L d us uv w) R (fun w' r s=>m w' none 0 0 us uv r s ⟨[],⟨World.ownsRow_nil _ _ _ _,by simp[Value.ownBlock]⟩,fun l k' e=>by cases e⟩ (fun l k' e=>by cases e) (fun k l k' e=>by cases e))
 |some k=>
  obtain⟨r,y⟩:=u k rfl;exact x (h:Ps B bp pv L k d us uv w) v r y R (fun w' p n o i j a b c e g=>m w' p n o i j a b c e (fun z l k' q t=>by injection q with q;subst q;exact g l k' t))
theorem B2m (hS:SlA L sl f)(h:Pu B bp pv L (d:Int) st us uv w)(he:Er bp w)(hk:∀k,st=some k→d≤10∧L.length<k+f)(R:RP)(i:∀w' G n E x C,Pu B bp pv L (d:Int) ((st.bind (fun k=>A1u L sl k d)).map (·.2)) x C w'→Fu bp uv C w w'→SlU (st.bind (fun k=>A1u L sl k d)) w.heap.size w'.heap.size w' G n E→NmU (st.bind (fun k=>A1u L sl k d)) us x→(∀k l k',st=some k→st.bind (fun k=>A1u L sl k d)=some (l,k')→k<k')→R (.returned (.slice G n E)) w'):Calls Tryz.prog 236 #[.pointer (some ⟨bp,0,none⟩)] w R:=by
 have hw0:=h.lt;replace i:=hd i;go_enter Tryz.func236,Tryz.ntmps236;go_wp2_with (fail);refine A5j (s:=A1A) h (by decide) _ ?_ ?_
 ·intro k S v w1 y g;subst S;obtain⟨hd1,V⟩:=hk k rfl;have H:=h.er he g;have X:A7j L sl k d=sl (k+1) d:=(by unfold A7j;rw[if_pos v]);go_wp2_with (fail);refine A4y hS y H (fun k' e=>by injection e with e;omega) _ ?_;have I:(some (k+1):Option Nat).bind (fun k=>sl k d)=sl (k+1) d:=rfl;rw[I];intro w2 G n E K M O N j J Q;have T:=g.size;have hz2:=N.size;have z:=hd (g.trans N);clear N g y;replace j:=hd j;go_wp2_with (fail);refine A0x (s:=K5) O (by decide) _ ?_;intro w3 q o;have P:=hd ((j.out.keep (o.sameU O (by omega) _)).wide T o.size);have r:=hd (z.out.trans o);replace q:=hd q;clear o j z O;have t:(some k:Option Nat).bind (fun k=>A1u L sl k d)=(((sl (k+1) d).map (·.2)).bind (xS L K5)).bind (fun k'=>(sl (k+1) d).bind (fun p=>some (p.1,k'))):=(by show A1u L sl k d=_;unfold A1u;rw[X]);rw[t] at i;replace t:=hd t;go_wp2;refine A6 (i.out _ G n E K M ?_ r.out ?_ ?_ ?_) rfl
  ·have b:=q.out;cases u:((sl (k+1) d).map (·.2)).bind (xS L K5) with
   |none=>rw[u] at b;exact b
   |some k'=>
    rw[u] at b;obtain⟨l,U,Z,_⟩:=A2p u;rw[Z];exact b
  ·obtain⟨xs,Y,a2⟩:=P.out;refine⟨xs,Y,fun l k' e=>?_⟩;obtain⟨A,m,a⟩:=C8 e;obtain⟨p,F,c⟩:=C8 a;injection c with c;injection c with c _;rw[←c];exact a2 p.1 p.2 F
  ·intro l k' e;obtain⟨A,m,a⟩:=C8 e;obtain⟨p,F,c⟩:=C8 a;injection c with c;injection c with c _;rw[←c];exact J p.1 p.2 F
  ·intro k0 l k' D e;injection D with D;obtain⟨A,m,a⟩:=C8 e;obtain⟨p,F,c⟩:=C8 a;obtain⟨l2,U,e7,e8⟩:=A2p m;have:=Q (k+1) l2 U rfl e7;obtain⟨_,I⟩:=C9 e8;injection c with c;injection c with _ c;omega
 ·intro v w1 y g;go_wp2_with (fail);refine A0x (s:=K5) y (by decide) _ ?_;intro w3 q o;have r:=hd (g.trans o);replace q:=hd q;clear o g y;have t:st.bind (fun k=>A1u L sl k d)=(st.bind (xS L K5)).bind (fun k'=>some (.nil,k')):=by
   cases st with
   |none=>rfl
   |some k=>
    show A1u L sl k d=_;unfold A1u A7j;rw[v k rfl];rfl
  rw[t] at i;replace t:=hd t;replace v:=hd v;go_wp2;refine A6 (i.out _ none 0 0 us uv ?_ r.out ⟨[],⟨World.ownsRow_nil _ _ _ _,by simp[Value.ownBlock]⟩,?_⟩ ?_ ?_) rfl
  ·have b:=q.out;cases u:st.bind (xS L K5) with
   |none=>rw[u] at b;exact b
   |some k'=>rw[u] at b;exact b
  ·intro l k' e;obtain⟨A,m,a⟩:=C8 e;injection a with a;injection a with a _;rw[←a];exact⟨rfl,rfl⟩
  ·intro l k' e;obtain⟨A,m,a⟩:=C8 e;injection a with a;injection a with a _;rw[←a];simp[E0]
  ·intro k0 l k' D e;obtain⟨A,m,a⟩:=C8 e;rw[D] at m;obtain⟨_,I⟩:=C9 m;injection a with a;injection a with _ a;omega
end
end
def StU (r:Option (Q3×Nat))(lo hi:Nat)(w:WD)(v:VL):Prop:=∀s k',r=some (s,k')→Z9 (fun _=>0) s lo hi w v
def StA (L:LB)(r:Nat→Nat→Option (Q3×Nat))(f F:Nat):Prop:=∀{w:WD}{B bp:Nat}{pv:VL}{k d:Nat}{us:LB}{uv:VL},Ps B bp pv L k (d:Int) us uv w→Er bp w→d≤10→L.length<k+f→∀(R:RP),(∀w' t u a b,Pu B bp pv L (d:Int) ((r k d).map (·.2)) a b w'→Fu bp uv b w w'→StU (r k d) w.heap.size w'.heap.size w' (.iface t u)→(∀s k',r k d=some (s,k')→a=us++G0 s∧k<k')→R (.returned (.iface t u)) w')→Calls Tryz.prog F #[.pointer (some ⟨bp,0,none⟩)] w R
theorem B1Q {c:Prop}[Decidable c]{k k':Nat}(h:(if c then some k else none)=some k'):c∧k'=k:=by
 split at h
 ·rename_i e;injection h with h;exact⟨e,h.symm⟩
 ·cases h
theorem A6l (d k:Nat):(if (d:Int)<10 then some k else none)=(if d<10 then some k else (none:Option Nat)):=by
 by_cases h:d<10
 ·rw[if_pos h,if_pos (by omega)]
 ·rw[if_neg h,if_neg (by omega)]
theorem B30 {L:LB}(hL:A0f L){V:Nat→Nat→Option (Sl×Nat)}{f:Nat}(hS:SlA L V f):StA L (A6T L V) f 225:=by
 intro w B bp pv k d us uv h he hd10 hk R M;have hu:Pu B bp pv L (d:Int) (some k) us uv w:=h;have hle0:=h.pa.le;have hw0:=hu.lt;replace M:=hd M;clear h;go_enter_defers Tryz.func225,Tryz.ntmps225;go_wp2_with (fail);refine A58 hu (by omega) _ ?_;rw[A6l];obtain⟨st1,T⟩:∃st,st=if d<10 then some k else none:=⟨_,rfl⟩;rw[←T];intro w1 h1 y;have ed1:((d:Int)+1)=((d+1:Nat):Int):=(by omega);rw[ed1] at h1;have he1:=hu.er he y;have hk1:∀k',st1=some k'→d+1≤10∧k'=k:=fun k' e=>by rw[e] at T;obtain⟨a,b⟩:=B1Q T.symm;omega
 replace T:=hd T;go_wp2_with (fail);refine A7z (A9C hL (L.length+1)) h1 he1 (fun k' e=>by have:=hk1 k' e;omega) _ ?_;obtain⟨r2,e2⟩:∃r,r=st1.bind (fun k=>pE L (L.length+1) k (d+1)):=⟨_,rfl⟩;rw[←e2];intro w3 tc uc us3 uv3 X hn3 hq3 g3 hx3;have hk3:∀c k',r2=some (c,k')→d+1≤10∧k<k':=fun c k' e=>by rw[e] at e2;obtain⟨k0,z,_⟩:=C8 e2.symm;have a:=hk1 k0 z;have:=hq3 k0 k' c z e;omega
 have hz1:=y.size;have hz3:=g3.size;have hlt3:=X.lt;have hB3:=X.le;have N:bp≠w3.heap.size:=(by omega);have hf3:=hd (y.trans g3);have hxa:=hd (hx3.keep (w':=w3.alloc (.cells #[.iface tc uc,.slice none 0 0,.slice none 0 0] 311)) (fun b _ _ _ _ h2 _ _=>((Below.refl w3.heap.size w3).alloc (z0 _) _).block b h2));replace e2:=hd e2;clear y g3 hx3 h1;go_wp2_with (fail);refine A0x (s:=A1B) (X.alloc _) (by decide) _ ?_;obtain⟨st3,O⟩:∃r,r=(r2.map (·.2)).bind (xS L A1B):=⟨_,rfl⟩;rw[←O];intro w4 h4 g4;have hk4:∀k',st3=some k'→d+1≤10∧k<k':=fun k' e=>by rw[e] at O;obtain⟨c,A,e8,z⟩:=A2p O.symm;have:=C9 z;have:=hk3 c A e8;omega
 have K:=(X.alloc _).apart A2 (by decide) N g4;have hx4:=hd (hxa.out.keep (g4.sameU (X.alloc _) (by omega) _));have hz4:=g4.size;rw[z6] at hz4;have P:=hd (hf3.out.trans ((Fu.of_below ((Below.refl _ w3).alloc (z0 _) _)).trans g4));have he4:=hu.er he P.out;clear g4 hf3 hxa X;generalize hg:w3.heap.size=q at*;replace hg:=hd hg;replace K:=hd K;replace O:=hd O;go_wp2_with (fail);refine A4y hS h4 he4 (fun k' e=>by have:=hk4 k' e;omega) _ ?_;obtain⟨r4,I⟩:∃r,r=st3.bind (fun k=>V k (d+1)):=⟨_,rfl⟩;rw[←I];intro w5 U n Z us5 uv5 h5 g5 hs5 hn5 hq5;have hk5:∀l k',r4=some (l,k')→d+1≤10∧k<k':=fun c k' e=>by rw[e] at I;obtain⟨k0,z,_⟩:=C8 I.symm;have a:=hk4 k0 z;have:=hq5 k0 c k' z e;omega
 have u:=h4.apart K.out (by decide) N g5;have hx5:=hx4.out.keep (g5.sameU h4 (by omega) _);have hz5:=g5.size;have a1:=A1 (i:=1) u rfl;have f1:=B2 (i:=1) u;have hb6:=hd (A4 (i:=1) u (.slice U n Z));have h6:=hd (h5.setNew u (by decide) hB3 1 (.slice U n Z));have G:=hd ((P.out.trans g5).setNew (show w.heap.size≤q by omega) 1 (.slice U n Z));have he6:=hu.er he G.out;have hs6:=hd (hs5.keep (D0 (b:=q) (i:=1) (v:=.slice U n Z) (.inl (by omega))));have hx6:=hd (hx5.keep (D0 (b:=q) (i:=1) (v:=.slice U n Z) (.inr (by omega))));clear g5 u P hs5 hx5 hx4 h4;replace h5:=hd h5;replace I:=hd I;go_wp2_with (fail);refine B2m hS h6.out he6 (fun k' e=>by obtain⟨l,z⟩:=bmS e;have:=hk5 l k' z;omega) _ ?_;obtain⟨r5,e5⟩:∃r,r=(r4.map (·.2)).bind (fun k=>A1u L V k (d+1)):=⟨_,rfl⟩;rw[←e5];intro w8 g D j us8 uv8 h8 Y H hn8 hq8;have p:=h6.out.apart hb6.out (by decide) N Y;have hx8:=hx6.out.keep (Y.sameU h6.out (by omega) _);have hs9:=hs6.out.keep (Y.sameU h6.out (by omega) _);have hz8:=Y.size;rw[z3] at hz8 H;have a2:=A1 (i:=2) p rfl;have f2:=B2 (i:=2) p;have Q:=hd (A4 (i:=2) p (.slice g D j));have hA:=hd (h8.setNew p (by decide) hB3 2 (.slice g D j));have hfA:=hd ((G.out.trans Y).setNew (show w.heap.size≤q by omega) 2 (.slice g D j));have hsA:=hd (H.keep (D0 (b:=q) (i:=2) (v:=.slice g D j) (.inl (by omega))));have hsB:=hd (hs9.keep (D0 (b:=q) (i:=2) (v:=.slice g D j) (.inl (by omega))));have hxA:=hd (hx8.keep (D0 (b:=q) (i:=2) (v:=.slice g D j) (.inr (by omega))));have r0:=A1 (i:=0) Q.out rfl;have r1:=A1 (i:=1) Q.out rfl;have r2':=A1 (i:=2) Q.out rfl;have m:=hA.out;rw[←ed1] at m;have c2:=m.c2;have fz2:=m.f2;replace m:=hd m;clear Y p G H hs9 hx8 hs6 hx6 hA h6;replace h8:=hd h8;replace e5:=hd e5;go_wp2;generalize hW:w8.setCell ⟨q,2,none⟩ (.slice g D j)=W at*;have hzW:W.heap.size=w8.heap.size:=(by rw[←hW];exact z3 _ _ _);refine leaves_cons (f:=235) (args:=#[.pointer (some ⟨bp,0,none⟩)]) (by simp) (by simp[go_sem]) ?_;refine (S9 _ bp ((d:Int)+1) (by omega) c2 fz2 .returning).mono ?_;rintro e u' wz ⟨rfl,rfl,rfl⟩;refine⟨_,results_tmp rfl _ _ _,?_⟩;have ed:(d:Int)+1-1=d:=(by omega);rw[ed];have hzz:(W.setCell ⟨bp,2,none⟩ (.int .i64 d)).heap.size=w8.heap.size:=(z3 _ _ _).trans hzW;have x:=m.out.dep d;have hfZ:=hfA.out.trans (A6D (bp:=bp) (w:=W) (uv:=uv8) d);have hr:A6T L V k d=r5.bind (fun o=>r4.bind (fun t=>r2.bind (fun c=>some (.ife c.1 t.1 o.1,o.2)))):=(by rw[e5.out,I.out,O.out,e2.out,T.out];rfl);have F:∀s k',A6T L V k d=some (s,k')→∃c t o A C,r2=some (c,A)∧r4=some (t,C)∧r5=some (o,k')∧s=.ife c t o:=(by intro s k' e;rw[hr] at e;obtain⟨o,x1,e⟩:=C8 e;obtain⟨t,J,e⟩:=C8 e;obtain⟨c,x3,e⟩:=C8 e;injection e with e;injection e with e0 e;exact⟨c.1,t.1,o.1,c.2,t.2,x3,J,by rw[x1,←e],e0.symm⟩);refine A6 (M.out _ 311 (.agg #[.iface tc uc,.slice U n Z,.slice g D j]) us8 uv8 ?_ hfZ ?_ ?_) rfl
 ·cases es:r5 with
  |none=>rw[es] at x hr;rw[hr];exact x
  |some o=>
   rw[es] at x hr;have S:=e5.out;rw[es] at S;obtain⟨t,C,E,_⟩:=A2p S.symm;have y4:=I.out;rw[E] at y4;obtain⟨k3,x3,_⟩:=C8 y4.symm;have y3:=O.out;rw[x3] at y3;obtain⟨c,A,J,_⟩:=A2p y3.symm;rw[E,J] at hr;rw[hr];exact x
 ·intro s k' e;obtain⟨c,t,o,A,C,J,E,S,rfl⟩:=F s k' e;obtain⟨xs,p1,p2⟩:=hsB.out;obtain⟨ys,p3,p4⟩:=hsA.out;obtain⟨q1,q2⟩:=p2 t C E;obtain⟨q3,q4⟩:=p4 o k' S;subst q1;subst q3;refine⟨_,_,_,w4.heap.size,w5.heap.size,rfl,by omega,by omega,by omega,?_,⟨xs,?_,?_⟩,⟨ys,?_,?_⟩⟩
  ·exact ((hxA.out c A J).wide (by omega) (by omega)).keep' (D0 (.inl (by omega)))
  ·exact p1.keep (by decide) (D0 (.inl (by omega)))
  ·exact q2.keep (D0 (.inl (by omega)))
  ·rw[hzz];exact p3.keep (by decide) (D0 (.inl (by omega)))
  ·rw[hzz];exact q4.keep (D0 (.inl (by omega)))
 ·intro s k' e;obtain⟨c,t,o,A,C,J,E,S,rfl⟩:=F s k' e;have b1:=hn3 c A J;have b2:=hn5 t C E;have b3:=hn8 o k' S;have b4:=hk5 t C E;have b5:=hq8 C o k' (by rw[E];rfl) S;refine⟨?_,by omega⟩;rw[b3,b2,b1];simp only[G0,z4]
def A59 (L:LB)(a:Nat→Nat→Option (Sl×Nat))(k d:Nat):Option (Q3×Nat):=
 let st1:=if d<10 then some k else none
 let st2:=st1.bind (xN L)
 let st3:=st2.bind (xS L wAS)
 let r4:=st3.bind (D2 L)
 let st5:=(r4.map (·.2)).bind (xS L wTO)
 let r6:=st5.bind (D2 L)
 let st7:=(r6.map (·.2)).bind (xS L wDO)
 let r8:=st7.bind (fun k=>a k (d+1))
 let st9:=(r8.map (·.2)).bind (xS L K5)
 st9.bind (fun k'=>r8.bind (fun b=>r6.bind (fun l=>r4.bind (fun f=>some (.loop (A0 L k) f.1 l.1 b.1,k')))))
theorem B8T {L:LB}(hL:A0f L){sl:Nat→Nat→Option (Sl×Nat)}{f:Nat}(hS:SlA L sl f):StA L (A59 L sl) f 227:=by
 intro w B bp pv k d us uv h he hd10 hk R ae;have hlen:us.length≤L.length:=(by have:=h.few;have:=h.pa.le;omega);have hu:Pu B bp pv L (d:Int) (some k) us uv w:=h;have hw0:=hu.lt;replace ae:=hd ae;clear h;go_enter_defers Tryz.func227,Tryz.ntmps227;go_wp2_with (fail);refine A58 hu (by omega) _ ?_;rw[A6l];obtain⟨C,e1⟩:∃o,o=if d<10 then some k else none:=⟨_,rfl⟩;rw[←e1];intro w1 h1 M;have ed1:((d:Int)+1)=((d+1:Nat):Int):=(by omega);have he1:=hu.er he M;have hk1:∀k',C=some k'→d+1≤10∧k'=k:=fun k' e=>by rw[e] at e1;obtain⟨a,b⟩:=B1Q e1.symm;omega
 replace e1:=hd e1;go_wp2_with (fail);refine B8t hL h1 hlen _ ?_;obtain⟨st2,e2⟩:∃o,o=C.bind (xN L):=⟨_,rfl⟩;rw[←e2];intro w3 s uv3 hs h3 g3;have hz3:=(M.trans g3).size;have hlt3:=h3.lt;have ab:=h3.le;have j:bp≠w3.heap.size:=(by omega);have hf3:=hd (M.trans g3);replace e2:=hd e2;clear M g3 h1;go_wp2_with (fail);refine A0x (s:=wAS) (h3.alloc _) (by decide) _ ?_;obtain⟨st3,e3⟩:∃o,o=st2.bind (xS L wAS):=⟨_,rfl⟩;rw[←e3];intro w4 h4 g4;have hk4:∀k',st3=some k'→d+1≤10∧k<k'∧C=some k∧O7 (A0 L k)=true:=fun k' e=>by rw[e] at e3;obtain⟨k2,x2,x3⟩:=C8 e3.symm;have y2:=e2.out;rw[x2] at y2;obtain⟨k1,x1,u⟩:=C8 y2.symm;have a:=hk1 k1 x1;have b:=C9 x3;have c:=A17 u;obtain⟨a1,rfl⟩:=a;exact⟨a1,by omega,x1,c.1⟩
 have ad:=(h3.alloc _).apart A2 (by decide) j g4;have hz4:=g4.size;rw[z6] at hz4;have hf4:=hd (hf3.out.trans ((Fu.of_below ((Below.refl _ w3).alloc (z0 _) _)).trans g4));have he4:=hu.er he hf4.out;replace e3:=hd e3;clear g4 hf3 h3;generalize hg:w3.heap.size=q at*;replace hg:=hd hg;replace ad:=hd ad;go_wp2_with (fail);refine B3V hL h4 he4 _ ?_;obtain⟨r4,e4⟩:∃o,o=st3.bind (D2 L):=⟨_,rfl⟩;rw[←e4];intro w5 n1 hn1 h5 g5;have hk5:∀m k',r4=some (m,k')→d+1≤10∧k<k'∧C=some k∧O7 (A0 L k)=true:=fun m k' e=>by rw[e] at e4;obtain⟨k3,x3,u⟩:=C8 e4.symm;obtain⟨a1,a2,a3,a4⟩:=hk4 k3 x3;have:=O1 u;exact⟨a1,by omega,a3,a4⟩
 have F:=h4.apart ad.out (by decide) j g5;have hz5:=g5.size;have a1:=A1 (i:=1) F rfl;have f1:=B2 (i:=1) F;have hb6:=hd (A4 (i:=1) F (.int .i64 n1));have h6:=hd (h5.setNew F (by decide) ab 1 (.int .i64 n1));have hf6:=hd ((hf4.out.trans g5).setNew (show w.heap.size≤q by omega) 1 (.int .i64 n1));replace e4:=hd e4;clear g5 F hf4 h4;replace h5:=hd h5;go_wp2_with (fail);refine A0x (s:=wTO) h6.out (by decide) _ ?_;obtain⟨st5,e5⟩:∃o,o=(r4.map (·.2)).bind (xS L wTO):=⟨_,rfl⟩;rw[←e5];intro w7 h7 g7;have ac:=h6.out.apart hb6.out (by decide) j g7;have hz7:=g7.size;rw[z3] at hz7;have hf7:=hd (hf6.out.trans g7);have he7:=hu.er he hf7.out;replace e5:=hd e5;clear g7 hf6 hb6 a1 f1 h6;replace ac:=hd ac;go_wp2_with (fail);refine B3V hL h7 he7 _ ?_;obtain⟨r6,e6⟩:∃o,o=st5.bind (D2 L):=⟨_,rfl⟩;rw[←e6];intro w8 n2 hn2 h8 g8;have D:=h7.apart ac.out (by decide) j g8;have hz8:=g8.size;have a2:=A1 (i:=2) D rfl;have f2:=B2 (i:=2) D;have hb9:=hd (A4 (i:=2) D (.int .i64 n2));have h9:=hd (h8.setNew D (by decide) ab 2 (.int .i64 n2));have hf9:=hd ((hf7.out.trans g8).setNew (show w.heap.size≤q by omega) 2 (.int .i64 n2));replace e6:=hd e6;clear g8 D hf7 h7;replace h8:=hd h8;go_wp2_with (fail);refine A0x (s:=wDO) h9.out (by decide) _ ?_;obtain⟨st7,e7⟩:∃o,o=(r6.map (·.2)).bind (xS L wDO):=⟨_,rfl⟩;rw[←e7];intro w10 N I;have Z:∀k',st7=some k'→d+1≤10∧k<k':=fun k' e=>by rw[e] at e7;obtain⟨m6,H,x6,x7⟩:=A2p e7.symm;have U:=e6.out;rw[x6] at U;obtain⟨k5,x5,K⟩:=C8 U.symm;have y5:=e5.out;rw[x5] at y5;obtain⟨m4,y,u,x9⟩:=A2p y5.symm;have c1:=hk5 m4 y u;have c2:=O1 K;have c3:=C9 x9;have c4:=C9 x7;omega
 have E:=h9.out.apart hb9.out (by decide) j I;have hz10:=I.size;rw[z3] at hz10;have A:=hd (hf9.out.trans I);have he10:=hu.er he A.out;replace e7:=hd e7;clear I hf9 hb9 a2 f2 h9;replace E:=hd E;rw[ed1] at N;go_wp2_with (fail);refine A4y hS N he10 (fun k' e=>by have:=Z k' e;omega) _ ?_;obtain⟨r8,e8⟩:∃r,r=st7.bind (fun k=>sl k (d+1)):=⟨_,rfl⟩;rw[←e8];intro w11 ao n cp us11 Y af O T hn11 hq11;have g:=N.apart E.out (by decide) j O;have hz11:=O.size;have a3:=A1 (i:=3) g rfl;have f3:=B2 (i:=3) g;have S:=hd (A4 (i:=3) g (.slice ao n cp));have P:=hd (af.setNew g (by decide) ab 3 (.slice ao n cp));have Q:=hd ((A.out.trans O).setNew (show w.heap.size≤q by omega) 3 (.slice ao n cp));have V:=hd (T.keep (D0 (b:=q) (i:=3) (v:=.slice ao n cp) (.inl (by omega))));replace e8:=hd e8;clear O g A T N;replace af:=hd af;go_wp2_with (fail);refine A0x (s:=K5) P.out (by decide) _ ?_;obtain⟨ag,e9⟩:∃o,o=(r8.map (·.2)).bind (xS L K5):=⟨_,rfl⟩;rw[←e9];intro w13 p G;have x:=P.out.apart S.out (by decide) j G;have hsA:=V.out.keep (G.sameU P.out (by omega) _);have hzA:=G.size;rw[z3] at hzA;have hfA:=hd (Q.out.trans G);have r0:=A1 (i:=0) x rfl;have r1:=A1 (i:=1) x rfl;have r2:=A1 (i:=2) x rfl;have r3:=A1 (i:=3) x rfl;rw[←ed1] at p;have c2:=p.c2;have fz2:=p.f2;replace e9:=hd e9;clear G S V Q a3 f3 P;replace x:=hd x;replace hsA:=hd hsA;replace p:=hd p;go_wp2;refine leaves_cons (f:=235) (args:=#[.pointer (some ⟨bp,0,none⟩)]) (by simp) (by simp[go_sem]) ?_;refine (S9 _ bp ((d:Int)+1) (by omega) c2 fz2 .returning).mono ?_;rintro e u' wz ⟨rfl,rfl,rfl⟩;refine⟨_,results_tmp rfl _ _ _,?_⟩;have ed:(d:Int)+1-1=d:=(by omega);rw[ed];have hzz:(w13.setCell ⟨bp,2,none⟩ (.int .i64 d)).heap.size=w13.heap.size:=z3 _ _ _;have J:=p.out.dep d;have hfZ:=hfA.out.trans (A6D (bp:=bp) (w:=w13) (uv:=Y) d);have hr:A59 L sl k d=ag.bind (fun k'=>r8.bind (fun b=>r6.bind (fun l=>r4.bind (fun f=>some (.loop (A0 L k) f.1 l.1 b.1,k'))))):=(by rw[e9.out,e8.out,e7.out,e6.out,e5.out,e4.out,e3.out,e2.out,e1.out];rfl);have X:∀k',ag=some k'→∃b l m z H y,r8=some (b,z)∧r6=some (l,H)∧r4=some (m,y)∧k<k'∧O7 (A0 L k)=true∧C=some k:=(by intro k' es;have y9:=e9.out;rw[es] at y9;obtain⟨b,z,K,x9⟩:=A2p y9.symm;have y8:=e8.out;rw[K] at y8;obtain⟨k7,x7,_⟩:=C8 y8.symm;have y7:=e7.out;rw[x7] at y7;obtain⟨l,H,x6,_⟩:=A2p y7.symm;have U:=e6.out;rw[x6] at U;obtain⟨k5,x5,_⟩:=C8 U.symm;have y5:=e5.out;rw[x5] at y5;obtain⟨m,y,u,_⟩:=A2p y5.symm;obtain⟨a1,a2,a3,a4⟩:=hk5 m y u;have b1:=Z k7 x7;have b2:=hq11 k7 b z x7 K;have b3:=C9 x9;exact⟨b,l,m,z,H,y,K,x6,u,by omega,a4,a3⟩);have aa:∀t k',A59 L sl k d=some (t,k')→∃b l m z H y,r8=some (b,z)∧r6=some (l,H)∧r4=some (m,y)∧k<k'∧s=A0 L k∧n1=m∧n2=l∧t=.loop (A0 L k) m l b:=(by intro t k' e;rw[hr] at e;obtain⟨k2,x1,e⟩:=C8 e;obtain⟨b,x2,e⟩:=C8 e;obtain⟨l,x3,e⟩:=C8 e;obtain⟨m,u,e⟩:=C8 e;injection e with e;injection e with e0 e;obtain⟨b',l',m',z,H,y,y8,U,y4,y1,y2,y3⟩:=X k2 x1;exact⟨b.1,l.1,m.1,b.2,l.2,m.2,x2,x3,u,by omega,hs k y3 y2,hn1 m.1 m.2 u,hn2 l.1 l.2 x3,e0.symm⟩);refine A6 (ae.out _ 320 (.agg #[.string s,.int .i64 n1,.int .i64 n2,.slice ao n cp]) us11 Y ?_ hfZ ?_ ?_) rfl
 ·cases es:ag with
  |none=>rw[es] at J hr;rw[hr];exact J
  |some k'=>
   rw[es] at J hr;obtain⟨b',l',m',z,H,y,y8,U,y4,y1,y2,y3⟩:=X k' es;rw[y8,U,y4] at hr;rw[hr];exact J
 ·intro t k' e;obtain⟨b,l,m,z,H,y,K,x6,u,x0,hsn,rfl,rfl,rfl⟩:=aa t k' e;subst hsn;obtain⟨xs,p1,p2⟩:=hsA.out;obtain⟨q1,q2⟩:=p2 b z K;subst q1;refine⟨_,rfl,xs,?_,?_⟩
  ·exact (p1.wide (by omega) (by omega)).keep (by decide) (D0 (.inl (by omega)))
  ·exact (q2.wide (by omega) (by omega)).keep (D0 (.inl (by omega)))
 ·intro t k' e;obtain⟨b,l,m,z,H,y,K,x6,u,x0,hsn,rfl,rfl,rfl⟩:=aa t k' e;have b2:=hn11 b z K;refine⟨?_,x0⟩;rw[b2,hsn];simp only[G0,z4,z5]
def A3O (L:LB)(k d:Nat):Option (Q3×Nat):=
 let r1:=pI L (L.length+1) k d
 let st2:=(r1.map (·.2)).bind (xS L wAS)
 let r3:=st2.bind (fun k=>xE L k d)
 r3.bind (fun e=>r1.bind (fun x=>some ((match x.1 with|none=>Q3.set (A0 L k) e.1|some i=>.setx (A0 L k) i e.1),e.2)))
theorem B14.keep {x:Option Ex}{lo hi:Nat}{w w':WD}{v:VL}(h:B14 x lo hi w v)(k:A02 w w' lo hi none):B14 x lo hi w' v:=by
 cases x with
 |none=>exact h
 |some i=>exact⟨h.1,h.2.keep' k⟩
def IxU (r:Option (Option Ex×Nat))(lo hi:Nat)(w:WD)(v:VL):Prop:=∀x k',r=some (x,k')→B14 x lo hi w v
theorem IxU.keep {r:Option (Option Ex×Nat)}{lo hi:Nat}{w w':WD}{v:VL}(h:IxU r lo hi w v)(k:A02 w w' lo hi none):IxU r lo hi w' v:=fun x k' e=>(h x k' e).keep k
theorem B5M {L:LB}{f:Nat}{w:WD}{B bp:Nat}{pv:VL}{k d:Nat}{us:LB}{uv:VL}(y:∀k,A05 L f k (fun d=>pE L f k d) 233)(h:Ps B bp pv L k (d:Int) us uv w)(r:Er bp w)(j:d≤10)(q:L.length<k+2+f)(z:O9 (A0 L k))(R:RP)(g:∀w' v c b,(v=.nilIface∨∃t u,v=.iface t u)→Pu B bp pv L (d:Int) ((pI L f k d).map (·.2)) c b w'→Fu bp uv b w w'→IxU (pI L f k d) w.heap.size w'.heap.size w' v→(∀x k',pI L f k d=some (x,k')→k<k'∧c=us++[A0 L k]++A2u x)→R (.returned (.agg #[.string (A0 L k),v])) w'):Calls Tryz.prog 232 #[.pointer (some ⟨bp,0,none⟩)] w R:=by
 refine B3w (y (k+2)) h r j q z R (fun x k' e s w' v b n l o=>?_) (fun e w' t u c b n l=>?_)
 ·refine g w' v _ b ?_ (by rw[e];exact n) l (fun m p a=>?_) (fun m p a=>?_)
  ·cases x with
   |none=>exact .inl o
   |some i=>exact .inr o.1
  ·rw[e] at a;injection a with a;injection a with a _;rw[←a];exact o
  ·rw[e] at a;injection a with a;injection a with a A;subst a;exact⟨by omega,rfl⟩
 ·exact g w' _ c b (.inr ⟨t,u,rfl⟩) (by rw[e];exact n) l (fun m p a=>by rw[e] at a;cases a) (fun m p a=>by rw[e] at a;cases a)
theorem B95 {L:LB}(hL:A0f L){w:WD}{B bp:Nat}{pv:VL}{k d:Nat}{us:LB}{uv:VL}(h:Ps B bp pv L k (d:Int) us uv w)(he:Er bp w)(ad:d≤10)(hn:O9 (A0 L k))(R:RP)(G:∀w' t u N ae,Pu B bp pv L (d:Int) ((A3O L k d).map (·.2)) N ae w'→Fu bp uv ae w w'→StU (A3O L k d) w.heap.size w'.heap.size w' (.iface t u)→(∀s k',A3O L k d=some (s,k')→N=us++G0 s∧k<k')→R (.returned (.iface t u)) w'):Calls Tryz.prog 224 #[.pointer (some ⟨bp,0,none⟩)] w R:=by
 have hu:Pu B bp pv L (d:Int) (some k) us uv w:=h;have hbw:=hu.lt;replace G:=hd G;go_enter Tryz.func224,Tryz.ntmps224;go_wp2_with (fail);refine B5M (A9C hL (L.length+1)) h he ad (by omega) hn _ ?_;obtain⟨r1,e1⟩:∃r,r=pI L (L.length+1) k d:=⟨_,rfl⟩;rw[←e1];intro w1 vi us1 uv1 hvi O E ab M;obtain⟨s,X⟩:∃s,s=A0 L k:=⟨_,rfl⟩;rw[←X];have T:bp≠w1.heap.size:=(by have:=O.lt;omega);have ac:=hd E;have hz1:=E.size;replace e1:=hd e1;replace X:=hd X;clear E h;rcases hvi with rfl|⟨ti,ui,rfl⟩;all_goals
  go_wp2_with (fail)
  refine A0x (s:=wAS) (O.alloc _) (by decide) _ ?_
  obtain⟨V,F⟩:∃S,S=(r1.map (·.2)).bind (xS L wAS):=⟨_,rfl⟩
  rw[←F]
  intro A h2 n
  have P:∀k',V=some k'→k<k':=fun k' e=>by
   rw[e] at F;obtain⟨x,j,g,m⟩:=A2p F.symm;have:=(M x j g).1;have:=C9 m;omega
  have o:=(O.alloc _).apart A2 (by decide) T n
  have H:=(ab.keep (w':=w1.alloc _) (fun b _ _ _ _ h2 _ _=>((Below.refl w1.heap.size w1).alloc (z0 _) _).block b h2)).keep (n.sameU (O.alloc _) (by omega) _)
  have Z:=hd (ac.out.trans ((Fu.of_below ((Below.refl _ w1).alloc (z0 _) _)).trans n))
  have hz2:=n.size
  rw[z6] at hz2
  have he2:=hu.er he Z.out
  have U:Er bp A.drew:=he2.below (below_drewN (Below.refl _ A) 1)
  have a0:=A1 (i:=0) o rfl
  have a1:=A1 (i:=1) o rfl
  replace F:=hd F
  clear n ac O ab
  generalize hz:w1.heap.size=z at*
  replace hz:=hd hz
  obtain⟨r3,Y⟩:∃r,r=V.bind (fun k=>pE L (L.length+1) k d):=⟨_,rfl⟩
  go_wp2_with (fail)
  have C:=hd h2
  have K:=hd o
  replace H:=hd H
  clear h2 o
  go_region_with (go_at_call 233;refine A7z (A9C hL (L.length+1)) (by exact C.out.drew) U (fun k' e=>by have:=P k' e;omega) _ ?_;rw[←Y];intro w5 t u aa Q h5 hn5 hq5 c q;have v:=C.out.drew.apart K.out (by decide) T c;have hi5:=hd (H.out.keep (A02.sub (c.sameU C.out.drew (by omega) none) (z0 _) (z0 _) (by simp)));have b0:=A1 (i:=0) v rfl;have b1:=A1 (i:=1) v rfl;replace h5:=hd h5;replace c:=hd c;replace q:=hd q;replace v:=hd v;replace Y:=hd Y)
  all_goals
   have hfC:=hd (Z.out.trans ((Fu.of_below (below_drewN (Below.refl _ A) 1)).trans c.out))
   have hx6:=hd (q.out.wide (show A.heap.size≤A.drew.heap.size from z0 _) (z0 _))
   have D:=c.out.size
   replace D:A.heap.size≤_:=D
   have J:A3O L k d=r3.bind (fun e=>r1.bind (fun x=>some ((match x.1 with|none=>Q3.set s e.1|some i=>.setx s i e.1),e.2))):=by
    rw[Y.out,F.out,e1.out,X.out];rfl
   have l:∀e k',r3=some (e,k')→∃x j,r1=some (x,j)∧k<k':=fun e k' a=>by
    have y3:=Y.out;rw[a] at y3;obtain⟨k2,m,x3⟩:=C8 y3.symm;have y2:=F.out;rw[m] at y2;obtain⟨x,j,g,_⟩:=A2p y2.symm;have:=P k2 m;have:=hq5 k2 k' e m a;exact⟨x,j,g,by omega⟩
   have I:Pu B bp pv L (d:Int) ((A3O L k d).map (·.2)) aa Q w5:=by
    have h6:=h5.out;cases a:r3 with
    |none=>rw[a] at h6 J;rw[J];exact h6
    |some p=>
     obtain⟨x,j,g,_⟩:=l p.1 p.2 a;rw[a] at h6;rw[a,g] at J;rw[J];exact h6
   have f:∀t k',A3O L k d=some (t,k')→∃x e j,r1=some (x,j)∧r3=some (e,k')∧k<k'∧t=(match x with|none=>Q3.set s e|some i=>.setx s i e):=by
    intro t k' a;rw[J] at a;obtain⟨e,g,a⟩:=C8 a;obtain⟨x,m,a⟩:=C8 a;injection a with a;injection a with e8 a;obtain⟨_,_,_,y⟩:=l e.1 e.2 g;exact⟨x.1,e.1,x.2,m,by rw[g,←a],by omega,e8.symm⟩
   replace I:=hd I
   replace f:=hd f
   clear h5 c q l J
   go_wp2
   go_ret
   refine A6 (G.out _ 309 (.agg #[.string s,_,.iface t u]) aa Q I.out hfC.out ?_ ?_) rfl
   ·intro S k' a;obtain⟨x,e,j,g,m,x3,rfl⟩:=f.out S k' a;have p1:=hi5.out x j g;have p2:=hx6.out e k' m;cases x with
    |none=>
     have hv:=p1;first
      |(refine⟨_,rfl,p2.wide (by omega) (z0 _)⟩)
      |(cases hv)
    |some i=>
     obtain⟨⟨t2,u2,hv⟩,p3⟩:=p1;first
      |(cases hv;done)
      |(refine⟨_,_,A.heap.size,rfl,by omega,D,p3.wide (z0 _) (by omega),p2⟩)
   ·intro S k' a;obtain⟨x,e,j,g,m,x3,rfl⟩:=f.out S k' a;have b1:=(M x j g).2;have b2:=hn5 e k' m;refine⟨?_,x3⟩;rw[b2,b1,←X.out];cases x with
    |none=>simp only[A2u,G0,List.append_nil,z4,z5]
    |some i=>simp only[A2u,G0,z4,List.cons_append,List.nil_append]
end Go.Proofs.YtidhiaaicmfabaaGreatDoor
