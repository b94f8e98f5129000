/- Texts (its parts, joined). -/
import Derived.Test.YtidhiaaicmfabaaGreatDoorTqBL
import Derived.Test.YtidhiaaicmfabaaGreatDoorTqBM
open Option renaming bind_some→z0,map_some→z5,map_eq_some_iff→z7
open Nat renaming le_refl→z3,le_trans→z8
namespace Go.Proofs.YtidhiaaicmfabaaGreatDoor
open Go.RowKit Go.Proofs Go.Deep
set_option maxRecDepth 100000
set_option maxHeartbeats 4000000
open Below renaming heap_setCell→z1,heap_alloc→z6
open World renaming size_setCell→z2
open IntWalk renaming i64_in→z4
section
variable {L:LB}{s2 s8 st9 st10:Option (Nat×Int)}
theorem dcT (f:s8=(s2.bind (yT L)).bind (yS L wSC))(a:∃q,s2=some q∧B6 (A0 L q.1) N8=true∧st9=some (q.1+1,q.2)):st9.bind (yS L wSC)=s8∧∀q t,s2=some q→tyP L q.1=some t→t.1=(3,false,1):=by
 obtain⟨q,e,h,g⟩:=a;have d:=B2O h;refine⟨?_,fun i t b c=>?_⟩
 ·rw[f,e,g];simp only[z0,yT,d,z5]
 ·rw[e] at b;injection b with b;subst b;rw[d] at c;injection c with c;rw[←c]
theorem B96 (c:s8=(s2.bind (yT L)).bind (yS L wSC))(a:∃q,s2=some q∧B6 (A0 L q.1) N8=true∧st9=some (q.1+1,q.2))(b:∃q,st9=some q∧B6 (A0 L q.1) R3=true∧st10=some (q.1+1,q.2)):s8=none:=by rw[←(dcT c a).1];obtain⟨q,d,e,_⟩:=b;rw[d];simp only[z0,yS];rw[if_neg];rw[U3 e];exact (by decide+kernel:¬(B6 R3 wSC=true))
theorem dc0 {h:Nat}(g:s8=(s2.bind (yT L)).bind (yS L wSC))(a:∀q,s2=some q→B6 (A0 L q.1) N8=false)(b:∀q,s2=some q→B6 (A0 L q.1) R3=false)(f:∀p c' k',s2=some p→kdP L p.1=some (c',k')→h=c'):(s2.bind (yC L)).bind (yS L wSC)=s8∧∀q t,s2=some q→tyP L q.1=some t→t.1=(h,false,1):=by
 cases e:s2 with
 |none=>rw[g,e];exact⟨rfl,fun q t d=>by cases d⟩
 |some q=>
  have i:=B1L (a q e) (b q e);refine⟨?_,fun m t d j=>?_⟩
  ·rw[g,e];simp only[z0,yT,i,yC];cases kdP L q.1<;>rfl
  ·injection d with d;subst d;rw[i] at j;obtain⟨c,l,k⟩:=z7.1 j;rw[←k,f q c.1 c.2 e l]
theorem dcA {r:Nat}(j:DgL (K3 L 100 st10).data.toList)(l:s8=(s2.bind (yT L)).bind (yS L wSC))(a:∀q,s2=some q→B6 (A0 L q.1) N8=false)(b:∃q,s2=some q∧B6 (A0 L q.1) R3=true∧st10=some (q.1+1,q.2))(f:∀p c' k',((st10.bind (yK L 100)).bind (yS L wOF))=some p→kdP L p.1=some (c',k')→r=c'):(((st10.bind (yK L 100)).bind (yS L wOF)).bind (yC L)).bind (yS L wSC)=s8∧∀q t,s2=some q→tyP L q.1=some t→t.1.1=r∧t.1.2.1=true∧A0F 0 (K3 L 100 st10).data.toList=c40 t.1.2.2:=by
 obtain⟨q,i,z,u⟩:=b;have e:=B3y (a q i) z;subst u;simp only[z0,B2E] at f ⊢;cases g:A2n L (q.1+1) with
 |none=>
  rw[g] at e;refine⟨?_,fun o t d h=>?_⟩
  ·rw[l,i];simp only[z0,yT,e];rfl
  ·rw[i] at d;injection d with d;subst d;rw[e] at h;cases h
 |some n=>
  rw[g] at e f;simp only[z0,z5] at e f ⊢;cases k:xS L wOF n.2 with
  |none=>
   rw[k] at e;rw[A0P k];refine⟨?_,fun o t d h=>?_⟩
   ·rw[l,i];simp only[z0,yT,e];rfl
   ·rw[i] at d;injection d with d;subst d;rw[e] at h;cases h
  |some k2=>
   rw[k] at e;have s:yS L wOF (n.2,q.2)=some (k2,q.2):=Q2.2 ⟨k,rfl⟩;rw[s] at f ⊢;simp only[z0] at e ⊢;refine⟨?_,fun o t d h=>?_⟩
   ·rw[l,i];simp only[z0,yT,e,yC];cases kdP L k2<;>rfl
   ·rw[i] at d;injection d with d;subst d;rw[e] at h;obtain⟨c,y,x⟩:=z7.1 h;rw[←x];refine⟨(f _ c.1 c.2 rfl y).symm,rfl,?_⟩;have v:K3 L 100 (some (q.1+1,q.2))=A0 L (q.1+1):=(by unfold K3;simp only[z0,B2E,g,z5];rfl);unfold A2n at g;by_cases m:Y8 (A0 L (q.1+1))=true
    ·rw[if_pos m] at g;injection g with g;rw[←g];rw[v] at j ⊢;exact A6C m j
    ·rw[if_neg m] at g;cases g
end
theorem B6H {L:LB}{sq:Nat→Option (Sl×Nat)}{p:Nat×Int}{vs:List Vd}{d s2 c:Option (Nat×Int)}(m:p.2=0)(g:d=yS L P2 p)(j:s2=d.bind (yQ sq ((0:Nat):Int)))(i:c=s2.bind (yS L K5)):(c=none→(xS L P2 p.1).bind (fun a=>(sq a).bind (fun q=>(xS L K5 q.2).bind (fun b=>if b=L.length∧H8 q.1≤10 then some (vs,q.1) else none)))=none)∧∀t,c=some t→∃body k',(d.bind (fun p=>sq p.1))=some (body,k')∧t.2=H8 body∧(xS L P2 p.1).bind (fun a=>(sq a).bind (fun q=>(xS L K5 q.2).bind (fun b=>if b=L.length∧H8 q.1≤10 then some (vs,q.1) else none)))=if t.1=L.length∧H8 body≤10 then some (vs,body) else none:=by
 subst i j g;cases f:xS L P2 p.1 with
 |none=>rw[show yS L P2 p=none from A0P f];exact⟨fun _=>rfl,fun t h=>by cases h⟩
 |some a=>
  rw[show yS L P2 p=some (a,p.2) from Q2.2 ⟨f,rfl⟩];simp only[z0,yQ];cases k:sq a with
  |none=>exact⟨fun _=>rfl,fun t h=>by cases h⟩
  |some q=>
   simp only[z0,z5];have l:=O2 q.1;cases e:xS L K5 q.2 with
   |none=>rw[A0P e];exact⟨fun _=>rfl,fun t h=>by cases h⟩
   |some b=>
    rw[show yS L K5 (q.2,max p.2 (((0:Nat):Int)+H8 q.1))=some (b,max p.2 (((0:Nat):Int)+H8 q.1)) from Q2.2 ⟨e,rfl⟩];refine⟨(fun h=>by cases h),fun t h=>⟨q.1,q.2,rfl,?_,?_⟩⟩
    ·injection h with h;rw[←h];simp only;omega
    ·injection h with h;rw[←h];rfl
structure DcS (bp lo z:Nat)(tv:VL)(L:LB)(w:WD)(ao:Option Addr)(nn cp:Nat)(vs:List Vd)(c:Array VL)(st:Option (Nat×Int))(wr:WD):Prop where
 du:Du (bp+1) bp tv L st wr
 bl:Below w.heap.size w wr
 pb:wr.heap[bp+1]? =some (.cells #[.slice ao nn cp,.slice none 0 0] 100)
 ow:wr.ownsRow lo 102 4 (.slice ao nn cp) nn (dcL vs)
 zc:wr.heap[z]? =some (.cells c 102)
 h1:w.heap.size≤bp
 h2:bp+1<lo
 h3:bp+1<z
 h4:∀g,(Value.slice ao nn cp).ownBlock=some g→lo≤g∧g<z
section
variable {bp lo z:Nat}{tv:VL}{L:LB}{w:WD}{ao:Option Addr}{nn cp:Nat}{vs:List Vd}{c:Array VL}{st st':Option (Nat×Int)}{wr wr':WD}
theorem DcS.lz (h:DcS bp lo z tv L w ao nn cp vs c st wr):z<wr.heap.size:=(Array.getElem?_eq_some_iff.1 h.zc).1
theorem DcS.step (h:DcS bp lo z tv L w ao nn cp vs c st wr)(d:Du (bp+1) bp tv L st' wr')(o:A8 bp wr wr'):DcS bp lo z tv L w ao nn cp vs c st' wr':=by have a:=h.h1;have e:=h.h2;have f:=h.h3;have g:=h.lz;exact⟨d,A8.bel h.bl o a (by omega),(o.block _ (by omega) (by omega)).trans h.pb,A5 h.ow (fun j _ i b=>o.block j b (by omega)),(o.block z g (by omega)).trans h.zc,a,e,f,h.h4⟩
theorem DcS.set (h:DcS bp lo z tv L w ao nn cp vs c st wr)(i:Nat)(v:VL):DcS bp lo z tv L w ao nn cp vs (c.setIfInBounds i v) st (wr.setCell ⟨z,i,none⟩ v):=by have a:=h.h1;have d:=h.h2;have e:=h.h3;exact⟨h.du.setNew (by omega) i v,h.bl.setCell (p:=⟨z,i,none⟩) (by show w.heap.size≤z;omega) v,(z1 _ _ _ _ (show bp+1≠z by omega)).trans h.pb,A5 h.ow (fun j b _ _=>z1 _ _ _ _ (show j≠z by have:=(h.h4 j b).2;omega)),A4 (i:=i) h.zc v,a,d,e,h.h4⟩
theorem DcS.bad (h:DcS bp lo z tv L w ao nn cp vs c st wr):DcS bp lo z tv L w ao nn cp vs c none (wr.setCell ⟨bp,2,none⟩ (.bool true)):=by have a:=h.h1;have d:=h.h2;have b:=h.h3;exact⟨h.du.bad,h.bl.setCell (p:=⟨bp,2,none⟩) a _,(z1 _ _ _ _ (show bp+1≠bp by omega)).trans h.pb,A5 h.ow (fun j _ e _=>z1 _ _ _ _ (show j≠bp by omega)),(z1 _ _ _ _ (show z≠bp by omega)).trans h.zc,a,d,b,h.h4⟩
end
theorem B6C {L:LB}{rl:Nat}{p':Nat×Int}{nm:BA}{d c:Int}{s2:Option (Nat×Int)}(a:nm=K3 L 110 (some p'))(b:∀v k',vdP L rl p'.1=some (v,k')→∃q t,s2=some q∧K3 L 110 (some p')=A0 L p'.1∧tyP L q.1=some t∧v=⟨A0 L p'.1,rl,t.1.1,t.1.2.1,t.1.2.2⟩)(h:∀q t,s2=some q→tyP L q.1=some t→(t.1.1:Int)=d∧(if t.1.2.1 then c40 t.1.2.2 else -1)=c):∀v k',vdP L rl p'.1=some (v,k')→dcV v=[.int .i64 (rl:Int),.string nm,.int .i64 d,.int .i64 c]:=fun v k' e=>by obtain⟨q,t,j,i,k,g⟩:=b v k' e;obtain⟨l,f⟩:=h q t j k;rw[g,a,i,←l,←f];rfl
theorem B9D (rl a:Nat)(nm:BA):∃v:Vd,dcV v=[.int .i64 (rl:Int),.string nm,.int .i64 (a:Int),.int .i64 (-1)]:=⟨⟨nm,rl,a,false,1⟩,rfl⟩
theorem B86 (rl b:Nat)(nm:BA){a:Int}(h:0≤a∧a≤1099511627776):∃v:Vd,dcV v=[.int .i64 (rl:Int),.string nm,.int .i64 (b:Int),.int .i64 a]:=⟨⟨nm,rl,b,true,a⟩,by unfold dcV;simp only[if_true];rw[show c40 a=a by unfold c40;omega]⟩
theorem C0J (a b c:Int)(s:BA):∀x∈[Value.int .i64 a,Value.string s,Value.int .i64 b,Value.int .i64 c],x.oneCell'=true:=by intro x d;simp only[List.mem_cons,List.not_mem_nil,or_false] at d;rcases d with rfl|rfl|rfl|rfl<;>rfl
theorem A64 (vs:List Vd)(v:Vd):dcL (vs++[v])=dcL vs++dcV v:=by unfold dcL;simp
theorem DcS.next {bp lo z:Nat}{tv:VL}{L:LB}{w:WD}{ao:Option Addr}{nn cp:Nat}{vs:List Vd}{c:Array VL}{s8:Option (Nat×Int)}{wr w':WD}{D:Option (List Vd×Nat)}{rl u g cap:Nat}{p:Nat×Int}{d:List VL}(h:DcS bp lo z tv L w ao nn cp vs c s8 wr)(E:∀c,c<wr.heap.size→(Value.slice ao nn cp).ownBlock≠some c→w'.heap[c]? =wr.heap[c]?)(I:wr.heap.size≤w'.heap.size)(y:Below w.heap.size w w')(C:lo≤w'.heap.size)(n:w'.ownsRow lo 102 4 (.slice (some ⟨g,0,none⟩) (nn+1) cap) (nn+1) (dcL vs++d))(a:(vdP L rl (p.1+1)).map (fun q=>(q.2,p.2))=s8)(A:∃v:Vd,dcV v=d)(B:∀v k',vdP L rl (p.1+1)=some (v,k')→dcV v=d)(b:D=(A47 L u rl p.1).map (fun q=>(vs++q.1,q.2)))(F:p.2=0)(O:nn≤p.1)(P:L.length<p.1+(u+1))(m:nn=vs.length):DcU (bp+1) bp tv L D w (bp+1) lo (w'.setCell ⟨bp+1,0,none⟩ (.slice (some ⟨g,0,none⟩) (nn+1) cap)) u:=by
 have M:=h.h1;have Q:=h.h2;have N:=h.h3;have K:=h.lz;have o:Du (bp+1) bp tv L s8 (w'.setCell ⟨bp+1,0,none⟩ (.slice (some ⟨g,0,none⟩) (nn+1) cap)):=(h.du.grow (w':=w') (lv:=Value.slice ao nn cp) I E (fun x H=>by have:=(h.h4 x H).1;omega)).setNew (z3 _) 0 _;have l:=y.setCell (p:=⟨bp+1,0,none⟩) (show w.heap.size≤bp+1 by omega) (.slice (some ⟨g,0,none⟩) (nn+1) cap);have k:=A5 (w':=w'.setCell ⟨bp+1,0,none⟩ (.slice (some ⟨g,0,none⟩) (nn+1) cap)) n (fun j _ J _=>z1 _ _ _ _ (show j≠bp+1 by omega));have s:=A4 (i:=0) ((E (bp+1) (by omega) (fun e=>by have:=(h.h4 _ e).1;omega)).trans h.pb) (.slice (some ⟨g,0,none⟩) (nn+1) cap);have t:lo≤(w'.setCell ⟨bp+1,0,none⟩ (.slice (some ⟨g,0,none⟩) (nn+1) cap)).heap.size:=(by rw[z2];exact C);unfold A47 at b;cases f:vdP L rl (p.1+1) with
 |none=>
  rw[f] at a b;obtain⟨v,A⟩:=A;rw[←A,←A64] at k;exact⟨_,_,_,vs++[v],s8,o,l,k,t,by simp[m],s,fun _=>b,fun G e=>by rw[←a] at e;cases e⟩
 |some q=>
  obtain⟨v,k'⟩:=q;have R:=A4h f;rw[f] at a b;simp only[z5,z0] at a b;rw[←B v k' f,←A64] at k;refine⟨_,_,_,vs++[v],s8,o,l,k,t,by simp[m],s,(fun e=>by rw[←a] at e;cases e),fun G e=>?_⟩;rw[←a] at e;injection e with e;subst e;refine⟨F,by simp only;omega,by simp only;omega,?_⟩;rw[b];cases pDs L u k' with
  |none=>rfl
  |some r=>simp only[z5,List.append_assoc];rfl
section
def B29 (L:LB)(rl k:Nat)(nm:BA)(c s8:Option (Nat×Int))(b a:Int):Prop:=
 c=s8∧(∃v:Vd,dcV v=[.int .i64 (rl:Int),.string nm,.int .i64 b,.int .i64 a])∧∀v k',vdP L rl k=some (v,k')→dcV v=[.int .i64 (rl:Int),.string nm,.int .i64 b,.int .i64 a]
section
variable {L:LB}{rl:Nat}{p:Nat×Int}{nm:BA}{s2 s8 st9 st10:Option (Nat×Int)}
theorem C0F {bp lo z:Nat}{e:VL}{w:WD}{g:Option Addr}{f d k:Nat}{vs:List Vd}{c:Array VL}{i:Option (Nat×Int)}{wr:WD}{b a:Int}(l:B29 L rl k nm i s8 b a)(h:DcS bp lo z e L w g f d vs c i wr)(o:c=#[.int .i64 (rl:Int),.string nm,.int .i64 b,.int .i64 a]):∃b a:Int,DcS bp lo z e L w g f d vs #[.int .i64 (rl:Int),.string nm,.int .i64 b,.int .i64 a] s8 wr∧(∃v:Vd,dcV v=[.int .i64 (rl:Int),.string nm,.int .i64 b,.int .i64 a])∧∀v k',vdP L rl k=some (v,k')→dcV v=[.int .i64 (rl:Int),.string nm,.int .i64 b,.int .i64 a]:=by obtain⟨m,n,j⟩:=l;subst o;subst m;exact⟨b,a,h,n,j⟩
theorem B8m {f:Int}(h:s8=(s2.bind (yT L)).bind (yS L wSC))(c:(vdP L rl (p.1+1)).map (fun q=>(q.2,p.2))=s8)(g:0≤f∧f≤1099511627776)(a:∃q,s2=some q∧B6 (A0 L q.1) N8=true∧st9=some (q.1+1,q.2))(b:∃q,st9=some q∧B6 (A0 L q.1) R3=true∧st10=some (q.1+1,q.2)):B29 L rl (p.1+1) nm (Option.bind none (yS L wSC)) s8 3 f:=by have d:s8=none:=B96 h a b;obtain⟨v,i⟩:=B86 rl 3 nm g;refine⟨by rw[d];rfl,⟨v,i⟩,fun v k' e=>?_⟩;rw[e,d] at c;cases c
theorem B90 {c:Int}{d:Nat}(g:DgL (K3 L 100 st10).data.toList)(h:nm=K3 L 110 (some (p.1+1,p.2)))(i:∀v k',vdP L rl (p.1+1)=some (v,k')→∃q t,s2=some q∧K3 L 110 (some (p.1+1,p.2))=A0 L (p.1+1)∧tyP L q.1=some t∧v=⟨A0 L (p.1+1),rl,t.1.1,t.1.2.1,t.1.2.2⟩)(k:s8=(s2.bind (yT L)).bind (yS L wSC))(f:0≤c∧c≤1099511627776)(j:c=A0F 0 (K3 L 100 st10).data.toList)(l:st9=s2)(a:∀q,s2=some q→B6 (A0 L q.1) N8=false)(b:∃q,st9=some q∧B6 (A0 L q.1) R3=true∧st10=some (q.1+1,q.2))(e:∀p c' k',((st10.bind (yK L 100)).bind (yS L wOF))=some p→kdP L p.1=some (c',k')→d=c'):B29 L rl (p.1+1) nm ((((st10.bind (yK L 100)).bind (yS L wOF)).bind (yC L)).bind (yS L wSC)) s8 (d:Int) c:=by rw[l] at b;obtain⟨u,s⟩:=dcA g k a b e;refine⟨u,B86 rl d nm f,B6C (p':=(p.1+1,p.2)) h i (fun q t x n=>?_)⟩;obtain⟨m,r,o⟩:=s q t x n;rw[m,r,if_pos rfl,←o];exact⟨rfl,j.symm⟩
theorem B98 (c:nm=K3 L 110 (some (p.1+1,p.2)))(d:∀v k',vdP L rl (p.1+1)=some (v,k')→∃q t,s2=some q∧K3 L 110 (some (p.1+1,p.2))=A0 L (p.1+1)∧tyP L q.1=some t∧v=⟨A0 L (p.1+1),rl,t.1.1,t.1.2.1,t.1.2.2⟩)(e:s8=(s2.bind (yT L)).bind (yS L wSC))(b:st10=st9)(a:∃q,s2=some q∧B6 (A0 L q.1) N8=true∧st9=some (q.1+1,q.2)):B29 L rl (p.1+1) nm (st10.bind (yS L wSC)) s8 3 (-1):=by obtain⟨h,g⟩:=dcT e a;refine⟨by rw[b];exact h,B9D rl 3 nm,B6C (p':=(p.1+1,p.2)) c d (fun q t i f=>?_)⟩;rw[g q t i f];exact⟨rfl,rfl⟩
theorem C0c {c:Nat}(e:nm=K3 L 110 (some (p.1+1,p.2)))(f:∀v k',vdP L rl (p.1+1)=some (v,k')→∃q t,s2=some q∧K3 L 110 (some (p.1+1,p.2))=A0 L (p.1+1)∧tyP L q.1=some t∧v=⟨A0 L (p.1+1),rl,t.1.1,t.1.2.1,t.1.2.2⟩)(h:s8=(s2.bind (yT L)).bind (yS L wSC))(i:st9=s2)(d:st10=st9)(a:∀q,s2=some q→B6 (A0 L q.1) N8=false)(b:∀q,st9=some q→B6 (A0 L q.1) R3=false)(g:∀p c' k',st10=some p→kdP L p.1=some (c',k')→c=c'):B29 L rl (p.1+1) nm ((st10.bind (yC L)).bind (yS L wSC)) s8 (c:Int) (-1):=by subst d;subst i;obtain⟨l,k⟩:=dc0 h a b g;refine⟨l,B9D rl c nm,B6C (p':=(p.1+1,p.2)) e f (fun q t m j=>?_)⟩;rw[k q t m j];exact⟨rfl,rfl⟩
end
theorem B7t (s:BA)(hs:s.size≤2000000)(w:WD)(hT:TkA s w)(R:RP)(P:M8 s=none→∀w',Below w.heap.size w w'→R (.returned (.pointer none)) w')(B:∀vs body,M8 s=some (vs,body)→∀w' pb,Below w.heap.size w w'→DPg w.heap.size w' vs body pb→R (.returned (.pointer (some ⟨pb,0,none⟩))) w'):Calls Tryz.prog 47 #[.string s] w R:=by
 replace P:=hd P;replace B:=hd B;go_enter Tryz.func47,Tryz.ntmps47;go_wp2_with (fail);refine hT _ ?_ ?_
 ·intro hn w1 E;have hr:M8 s=none:=by
   by_cases c:s.size≤700
   ·rw[A2h c];exact hn
   ·unfold M8;rw[if_neg c]
  replace E:=hd E;replace hr:=hd hr;clear hn;go_wp2;exact A6 (P.out hr.out _ E.out) rfl
 ·intro L hL tv w1 E f;obtain⟨po,pc,rfl⟩:=A7 f;by_cases h7:s.size≤700;rotate_left
  ·have t7:decide (700<(s.size:Int))=true:=(by simp;omega);have hr:M8 s=none:=(by unfold M8;rw[if_neg h7]);replace E:=hd E;replace hr:=hd hr;clear f;go_wp2;exact A6 (P.out hr.out _ E.out) rfl
  ·have t7:decide (700<(s.size:Int))=false:=(by simp;omega);have hrT:M8 s=A3U L:=(by rw[A2h h7,hL];rfl);rw[hrT] at P B;have hz1:=E.size;obtain⟨Z,y⟩:∃W,W=(w1.alloc (Obj.cells #[.slice po L.length pc,.int .i64 0,.bool false,.int .i64 0] 174)).alloc (Obj.cells #[.slice none 0 0,.slice none 0 0] 100):=⟨_,rfl⟩;have hz2:Z.heap.size=w1.heap.size+2:=(by rw[y];simp);have hLl:L.length≤700:=(by have:=A6e _ _ _ hL;omega);have hne:∀t∈L,A5k t:=fun t ht=>(A0i _ _ _ hL t ht).1.tk (by have:=(A0i _ _ _ hL t ht).2;omega);have h2:Du (w1.heap.size+1) w1.heap.size (.slice po L.length pc) L (some (0,0)) Z:=(by rw[y];exact B3i f (by omega) hne);obtain⟨r0,er0⟩:∃r,r=pDs L (L.length+1) 0:=⟨_,rfl⟩;have hb2:Below w.heap.size w Z:=(by rw[y];exact (E.alloc (by omega) _).alloc (by simp;omega) _);have D:DcU (w1.heap.size+1) w1.heap.size (.slice po L.length pc) L r0 w (w1.heap.size+1) Z.heap.size Z (L.length+1):=by
    refine⟨none,0,0,[],some (0,0),h2,hb2,World.ownsRow_nil _ _ _ _,z3 _,rfl,?_,(fun e=>by cases e),fun p e=>?_⟩
    ·rw[y];exact A9 (by simp)
    ·injection e with e;subst e;refine⟨rfl,z3 _,by simp only;omega,?_⟩;rw[er0];cases pDs L (L.length+1) 0<;>rfl
   have hdoc:A3U L=r0.bind (fun p=>(xS L P2 p.2).bind (fun k1=>(qSl L (L.length+1) k1).bind (fun q=>(xS L K5 q.2).bind (fun k2=>if k2=L.length∧H8 q.1≤10 then some (p.1,q.1) else none)))):=(by rw[er0];rfl);rw[hdoc] at P B;replace hdoc:=hd hdoc;replace D:=hd D;replace er0:=hd er0;replace f:=hd f;replace hrT:=hd hrT;have hlo2:w1.heap.size+1<Z.heap.size:=(by omega);have hw1:w.heap.size≤w1.heap.size:=hz1;replace E:=hd E;replace hL:=hd hL;clear h2 hb2 hne;go_wp2;rw[←y];clear y hz2;generalize Z.heap.size=lo at*;generalize hbp:w1.heap.size=bp at*;replace hbp:=hd hbp;go_loopg [7] (L.length+2) (fun gk _ wr=>∃gf,gf+1=gk∧DcU (bp+1) bp (.slice po L.length pc) L r0 w (bp+1) lo wr gf);case atStart=>exact⟨L.length+1,rfl,D.out⟩
   case round=>
    obtain⟨gf,hgf,ao,nn,cp,vs,st,F,S,ab,hlo,ae,hxp,hno,hyes⟩:=hrel;clear D;have hszr:=S.size;cases st with
    |none=>
     have A:=hno rfl;rw[A] at P;obtain⟨k9,D9,G⟩:=F;have c2:wr.cell? ⟨bp,2,none⟩=some (.bool true):=G.row.cell (i:=2) (by omega);have lb:=G.row.lt;have h0:Du (bp+1) bp (.slice po L.length pc) L none wr:=⟨k9,D9,G⟩;replace A:=hd A;replace ae:=hd ae;clear G ab hno hyes;go_wp2_with (fail);refine P3 (s:=P2) h0 (by decide) (.inl (by kernel_rfl)) _ ?_;intro w3 h3 o3;have hx3:=(o3.block (bp+1) (by omega) (by omega)).trans hxp;have ag:=A8.bel S o3 (by omega) (by omega);have hz3:=o3.size;clear o3;go_wp2_with (fail);refine slD L (L.length+1) (d:=0) h3 (fun p e=>by cases e) (by omega) _ ?_;intro w4 bo bn bc h4 o4 _ _;have T:=(o4.block (bp+1) (by omega) (by omega)).trans hx3;have hb4:=A8.bel ag o4 (by omega) (by have:=ag.size;omega);have hz4:=o4.size;have a1:=A1 (i:=1) T rfl;have f1:=B2 (i:=1) T;have lp4:bp+1<w4.heap.size:=(by omega);have h5:=h4.setNew (z3 (bp+1)) 1 (.slice bo bn bc);have hb5:=hd (hb4.setCell (p:=⟨bp+1,1,none⟩) (by show w.heap.size≤bp+1;omega) (.slice bo bn bc));replace h4:=hd h4;clear o4 hx3 T;go_wp2_with (fail);refine P3 (s:=K5) h5 (by decide) (.inl (by kernel_rfl)) _ ?_;intro w6 I o6;have af:=hd (A8.bel hb5.out o6 (by omega) (by rw[z2];omega));obtain⟨k6,D6,O⟩:=I;have c26:w6.cell? ⟨bp,2,none⟩=some (.bool true):=O.row.cell (i:=2) (by omega);have lb6:=O.row.lt;replace O:=hd O;replace h5:=hd h5;clear o6;go_wp2_with (fail);go_quiet (fail);go_wp2;exact A6 (P.out rfl _ (below_drewN af.out _)) rfl
    |some p=>
     obtain⟨q1,q2,q3,q4⟩:=hyes p rfl;have hbB:=F.blt;have hle:=F.le;have hkL:=F.kle;have c2:wr.cell? ⟨bp,2,none⟩=some (.bool false):=F.1.row.cell (i:=2) (by omega);have lb:=F.1.row.lt;clear hno hyes;replace q4:=hd q4;replace ae:=hd ae;go_wp2_with (fail);refine A1z F _ ?_;rw[show lkS L (some p)=A0 L p.1 from rfl];intro w1 h1 b1;unfold A2x;have T1:=A0c (t:=A0 L p.1) B9A;have T2:=A0c (t:=A0 L p.1) B7B;have T3:=A0c (t:=A0 L p.1) B7w;have X:=(b1.block (bp+1) (by omega)).trans hxp;have M:=S.trans (b1.mono (by omega));have f:=A5 ab (fun j _ _ h2=>b1.block j h2);have hz1:=b1.size;generalize K7 (A0 L p.1)=K;obtain⟨Z,y⟩:∃W,W=w1.alloc (Obj.cells #[.int .u8 (K:Int),.string (A0 L p.1)] 176):=⟨_,rfl⟩;have hzz2:Z.heap.size=w1.heap.size+1:=(by rw[y];simp);cases a:rlP (A0 L p.1) with
     |none=>
      unfold rlP at a;by_cases c1:B6 (A0 L p.1) wIN=true
      ·rw[if_pos c1] at a;cases a
      rw[if_neg c1] at a;by_cases J:B6 (A0 L p.1) A5X=true
      ·rw[if_pos J] at a;cases a
      rw[if_neg J] at a;by_cases c3:B6 (A0 L p.1) A8h=true
      ·rw[if_pos c3] at a;cases a
      rw[Bool.not_eq_true] at c1 J c3;rw[c1] at T1;rw[J] at T2;rw[c3] at T3;have hrl':rlP (A0 L p.1)=none:=(by unfold rlP;rw[c1,J,c3];rfl);obtain⟨g0,rfl⟩:∃g0,gf=g0+1:=⟨gf-1,by omega⟩;have A:=q4.out;rw[A0z hrl'] at A;simp only[z5,List.append_nil] at A;rw[A] at P B;simp only[z0] at P B;obtain⟨s1,e1⟩:∃s,s=yS L P2 p:=⟨_,rfl⟩;obtain⟨s2,e2⟩:∃s,s=s1.bind (yQ (qSl L (L.length+1)) ((0:Nat):Int)):=⟨_,rfl⟩;obtain⟨s3,e3⟩:∃s,s=s2.bind (yS L K5):=⟨_,rfl⟩;obtain⟨hE1,hE2⟩:=B6H (vs:=vs) q1 e1 e2 e3;have h2:Du (bp+1) bp (.slice po L.length pc) L (some p) Z:=(by rw[y];exact h1.alloc _);have hb2:Below w.heap.size w Z:=(by rw[y];exact M.alloc (by omega) _);have hx2:Z.heap[bp+1]? =some (.cells #[.slice ao nn cp,.slice none 0 0] 100):=(by rw[y];exact (z6 _ _ _ (by omega)).trans X);have ho2:Z.ownsRow lo 102 4 (.slice ao nn cp) nn (dcL vs):=(by rw[y];exact f.alloc _);replace hE1:=hd hE1;replace hE2:=hd hE2;replace A:=hd A;replace h1:=hd h1;replace F:=hd F;clear hxp X S M ab f q4;go_wp2_with (fail);rw[←y];refine P3 (s:=P2) h2 (by decide) (.inl (by kernel_rfl)) _ ?_;rw[show (some p:Option (Nat×Int)).bind (yS L P2)=s1 from e1.symm];intro w3 h3 o3;have hx3:=(o3.block (bp+1) (by omega) (by omega)).trans hx2;have ho3:=A5 ho2 (fun j _ h5 I=>o3.block j I (by omega));have ag:=A8.bel hb2 o3 (by omega) (by omega);have hz3:=o3.size;have hs1:∀t,s1=some t→((0:Nat):Int)≤t.2∧L.length<t.1+(L.length+1):=fun t e=>by rw[e1] at e;have:=Q2.1 e;exact⟨by omega,by omega⟩
      clear o3;go_wp2_with (fail);refine slD L (L.length+1) (d:=0) h3 hs1 (by omega) _ ?_;rw[←e2];intro w4 bo bn bc h4 o4 hu4 _;have T:=(o4.block (bp+1) (by omega) (by omega)).trans hx3;have ho4:=A5 ho3 (fun j _ h5 I=>o4.block j I (by omega));have hb4:=A8.bel ag o4 (by omega) (by have:=ag.size;omega);have hz4:=o4.size;have hg3:∀g,(Value.slice ao nn cp).ownBlock=some g→g<w3.heap.size:=fun g hg=>(ho3.lt g hg).2;have a1:=A1 (i:=1) T rfl;have f1:=B2 (i:=1) T;have lp4:bp+1<w4.heap.size:=(by omega);have h5:=h4.setNew (z3 (bp+1)) 1 (.slice bo bn bc);have hx5:=hd (A4 (i:=1) T (.slice bo bn bc));have hb5:=hd (hb4.setCell (p:=⟨bp+1,1,none⟩) (by show w.heap.size≤bp+1;omega) (.slice bo bn bc));have ho5:=hd (A5 (w':=w4.setCell ⟨bp+1,1,none⟩ (.slice bo bn bc)) ho4 (fun j _ h5 I=>z1 _ _ _ _ (show j≠bp+1 by omega)));have hu5:=hd (hu4.kp (A1S (g:=bp+1) (i:=1) (v:=.slice bo bn bc) (.inl (by omega)) none));replace h4:=hd h4;replace hg3:=hd hg3;have lp3:bp+1<w3.heap.size:=(by omega);clear o4 hx3 T hu4 ho4 ho3 ho2 hx2 hb2 ag hb4 h3;go_wp2_with (fail);refine P3 (s:=K5) h5 (by decide) (.inl (by kernel_rfl)) _ ?_;rw[←e3];intro w6 I o6;have af:=hd (A8.bel hb5.out o6 (by omega) (by rw[z2];omega));have hx6:=hd ((o6.block (bp+1) (by rw[z2];omega) (by omega)).trans hx5.out);have ah:=hd (A5 ho5.out (fun j _ h5 I=>o6.block j I (by omega)));have hu6:=hd (hu5.out.kp (o6.sm (by omega) (by rw[z2];exact z3 _) none));have hz6:w4.heap.size≤w6.heap.size:=(by have:=o6.size;rw[z2] at this;exact this);have eN:=ae.out;replace h5:=hd h5;clear o6 hb5 ho5 hu5 hx5;cases s3 with
      |none=>
       have hn:=hE1.out rfl;simp only[hn] at P;obtain⟨k6,D6,O⟩:=I;have c26:w6.cell? ⟨bp,2,none⟩=some (.bool true):=O.row.cell (i:=2) (by omega);have lb6:=O.row.lt;replace O:=hd O;replace hn:=hd hn;clear B hx6 ah hu6;go_wp2_with (fail);go_quiet (fail);go_wp2;exact A6 (P.out trivial _ (below_drewN af.out _)) rfl
      |some t=>
       obtain⟨body,k',y1,y2,y3⟩:=hE2.out t rfl;have c06:w6.cell? ⟨bp,0,none⟩=some (.slice po L.length pc):=I.1.row.cell (i:=0) (by omega);have c16:w6.cell? ⟨bp,1,none⟩=some (.int .i64 (t.1:Int)):=I.1.row.cell (i:=1) (by omega);have c26:w6.cell? ⟨bp,2,none⟩=some (.bool false):=I.1.row.cell (i:=2) (by omega);have c36:w6.cell? ⟨bp,3,none⟩=some (.int .i64 t.2):=I.1.row.cell (i:=3) (by omega);have lb6:=I.1.row.lt;replace I:=hd I;replace hE2:=hd hE2;rw[y3] at P B;by_cases c:t.1=L.length∧H8 body≤10
       ·have d1:(((t.1:Nat):Int) !=(L.length:Int))=false:=(by rw[c.1];simp);have d2:decide (10<t.2)=false:=(by rw[y2];simp;omega);have hpg:∀n,DPg w.heap.size (w6.drewN n) vs body (bp+1):=fun n=>by obtain⟨xs,v1,v2⟩:=hu6.out.kp (w':=w6.drewN n) (fun _ _ _ _=>rfl);obtain⟨v3,v4⟩:=v2 body k' y1;subst v3;rw[eN] at hx6 ah hg3;exact⟨ao,cp,bo,bc,xs,hx6.out,by omega,⟨ah.out.1,(A5 (w':=w6.drewN n) ah.out (fun _ _ _ _=>rfl)).2.imp id (fun⟨g,cap,cur,u1,u2,u3⟩=>⟨g,cap,cur,u1,by omega,u3⟩)⟩,w3.heap.size,by omega,lp3,hg3.out,v1.wd (z3 _) hz6,v4.wide (z3 _) hz6⟩
        rw[if_pos c] at B;replace y1:=hd y1;replace y2:=hd y2;clear P hx6 ah hu6;go_wp2_with (fail);go_quiet (fail);go_wp2;exact A6 (B.out vs body rfl _ (bp+1) (below_drewN af.out _) (hpg _)) rfl
       ·rw[if_neg c] at P;replace y1:=hd y1;clear B hx6 ah hu6;by_cases c1:t.1=L.length
        ·have d1:(((t.1:Nat):Int) !=(L.length:Int))=false:=(by rw[c1];simp);have d2:decide (10<t.2)=true:=(by simp only[decide_eq_true_eq];rw[y2];omega);go_wp2_with (fail);go_quiet (fail);go_wp2;exact A6 (P.out trivial _ (below_drewN af.out _)) rfl
        ·have d1:(((t.1:Nat):Int) !=(L.length:Int))=true:=(by simp;omega);go_wp2_with (fail);go_quiet (fail);go_wp2;exact A6 (P.out trivial _ (below_drewN af.out _)) rfl
     |some rl=>
      have hend:p.1<L.length:=by
       by_cases c:p.1<L.length
       ·exact c
       ·rw[G7 c,show rlP ⟨#[]⟩=none by kernel_rfl] at a;cases a
      obtain⟨g0,rfl⟩:∃g0,gf=g0+1:=⟨gf-1,by omega⟩;have A:=q4.out;rw[A06 a] at A;obtain⟨ri,eri⟩:∃r:Int,r=(rl:Int):=⟨_,rfl⟩;have hTT:((A0 L p.1).toList==[73,78])=true∧((A0 L p.1).toList==[79,85,84])=false∧((A0 L p.1).toList==[86,65,82])=false∧ri=0∨ ((A0 L p.1).toList==[73,78])=false∧((A0 L p.1).toList==[79,85,84])=true∧((A0 L p.1).toList==[86,65,82])=false∧ri=1∨ ((A0 L p.1).toList==[73,78])=false∧((A0 L p.1).toList==[79,85,84])=false∧((A0 L p.1).toList==[86,65,82])=true∧ri=2:=by
       unfold rlP at a;by_cases c1:B6 (A0 L p.1) wIN=true
       ·rw[if_pos c1] at a;injection a with a;rw[U3 c1];exact .inl ⟨by kernel_rfl,by kernel_rfl,by kernel_rfl,by rw[eri,←a];rfl⟩
       rw[if_neg c1] at a;by_cases J:B6 (A0 L p.1) A5X=true
       ·rw[if_pos J] at a;injection a with a;rw[U3 J];exact .inr (.inl ⟨by kernel_rfl,by kernel_rfl,by kernel_rfl,by rw[eri,←a];rfl⟩)
       rw[if_neg J] at a;by_cases c3:B6 (A0 L p.1) A8h=true
       ·rw[if_pos c3] at a;injection a with a;rw[U3 c3];exact .inr (.inr ⟨by kernel_rfl,by kernel_rfl,by kernel_rfl,by rw[eri,←a];rfl⟩)
       rw[if_neg c3] at a;cases a
      clear T1 T2 T3 P B;have c11:w1.cell? ⟨bp,1,none⟩=some (.int .i64 (p.1:Int)):=h1.1.row.cell (i:=1) (by omega);have f11:=h1.1.row.frozen 1;have lb1:=h1.1.row.lt;have jk:IntKind.i64.wrap ((p.1:Int)+1)=(p.1:Int)+1:=z4 _ (by omega);obtain⟨W3,U⟩:∃W,W=(w1.setCell ⟨bp,1,none⟩ (.int .i64 ((p.1:Int)+1))).alloc (Obj.cells #[.int .u8 (K:Int),.string (A0 L p.1)] 176):=⟨_,rfl⟩;have hz3:W3.heap.size=w1.heap.size+1:=(by rw[U];simp);obtain⟨W4,eW4⟩:∃W,W=W3.alloc (Obj.cells #[.int .i64 ri,.string ⟨#[]⟩,.int .i64 0,.int .i64 (-1)] 102):=⟨_,rfl⟩;have hS4:DcS bp lo (w1.heap.size+1) (.slice po L.length pc) L w ao nn cp vs #[.int .i64 (rl:Int),.string ⟨#[]⟩,.int .i64 0,.int .i64 (-1)] (some (p.1+1,p.2)) W4:=by
       rw[eW4,←hz3,eri];refine⟨?_,?_,(z6 _ _ _ (by omega)).trans ?_,World.ownsRow.alloc ?_ _,A9 rfl,hw1,hlo2,by omega,fun g hg=>by have:=f.lt g hg;omega⟩
       ·rw[U];exact ((h1.next hend).alloc _).alloc _
       ·rw[U];exact ((M.setCell (p:=⟨bp,1,none⟩) hw1 _).alloc (by rw[z2];omega) _).alloc (by simp;omega) _
       ·rw[U];exact (z6 _ _ _ (by rw[z2];omega)).trans ((z1 _ _ _ _ (show bp+1≠bp by omega)).trans X)
       ·rw[U];exact World.ownsRow.alloc (A5 f (fun j _ h5 _=>z1 _ _ _ _ (show j≠bp by omega))) _
      obtain⟨s2,e2⟩:∃s,s=(yK L 110 (p.1+1,p.2)).bind (yS L wCO):=⟨_,rfl⟩;obtain⟨s8,e8⟩:∃s,s=(s2.bind (yT L)).bind (yS L wSC):=⟨_,rfl⟩;obtain⟨hV1,hV2⟩:=B9i (rl:=rl) e2 e8;replace hV1:=hd hV1;replace hV2:=hd hV2;replace A:=hd A;replace h1:=hd h1;replace F:=hd F;replace e8:=hd e8;clear hxp X S M ab f q4 y hzz2;clear Z;have hloz:lo≤w1.heap.size+1:=(by omega);rcases hTT with ⟨T1,T2,T3,rfl⟩|⟨T1,T2,T3,rfl⟩|⟨T1,T2,T3,rfl⟩;all_goals
       clear eri
       go_wp2_with (fail)
       rw[←U,←eW4]
       generalize w1.heap.size+1=z at*
       clear U eW4 hz3
       refine A7w (c:=110) hS4.du (by omega) _ ?_
       intro w6 I o6
       have ad:=hS4.step I o6
       have hz6:=ad.lz
       have a1:=A1 (i:=1) ad.zc rfl
       have f1:=B2 (i:=1) ad.zc
       obtain⟨nm,ac⟩:∃n,n=K3 L 110 (some (p.1+1,p.2)):=⟨_,rfl⟩
       rw[←ac]
       have hS7:=ad.set 1 (.string nm)
       replace ad:=hd ad
       replace ac:=hd ac
       clear I o6 hS4
       go_wp2_with (fail)
       refine P3 (s:=wCO) hS7.du (by decide) (.inr (by kernel_rfl)) _ ?_
       rw[show ((some (p.1+1,p.2):Option (Nat×Int)).bind (yK L 110)).bind (yS L wCO)=s2 from e2.symm]
       intro w8 h8 o8
       have hS8:=hS7.step h8 o8
       clear h8 o8 hS7
       go_wp2_with (fail)
       refine B0J (s:=N8) hS8.du (by decide) (.inl (by kernel_rfl)) _ ?_
       intro w9 okT st9 h9 o9 C
       have hS9:=hS8.step h9 o9
       clear h9 o9 hS8
       go_wp2_with (fail)
       refine B0J (s:=R3) hS9.du (by decide) (.inl (by kernel_rfl)) _ ?_
       intro w10 okA st10 h10 o10 Y
       have k:=hS9.step h10 o10
       clear h10 o10 hS9
       rcases Bool.eq_false_or_eq_true okA with hA|hA
       case' inl=>
        subst hA
        have b9:∃q,st9=some q∧B6 (A0 L q.1) R3=true∧st10=some (q.1+1,q.2):=by
         rcases Y with ⟨_,h⟩|⟨h,_⟩
         ·exact h
         ·cases h
        have hdg:=(A9a k.du).2
        have hsb:=A2O (K3 L 100 st10).data.toList
        replace hdg:=hd hdg
        replace b9:=hd b9
        replace hsb:=hd hsb
        replace C:=hd C
        clear Y
        go_wp2_with (fail)
        refine A56 k.du _ ?_
        intro w11 h11 o11
        have H:=k.step h11 o11
        have hz11:=H.lz
        have a3:=A1 (i:=3) H.zc rfl
        have f3:=B2 (i:=3) H.zc
        obtain⟨sz,esz⟩:∃n,n=A0F 0 (K3 L 100 st10).data.toList:=⟨_,rfl⟩
        rw[←esz] at hsb
        rw[←esz]
        have hS12:=H.set 3 (.int .i64 sz)
        replace H:=hd H
        replace esz:=hd esz
        clear h11 o11 k
        go_wp2_with (fail)
        refine P3 (s:=wOF) hS12.du (by decide) (.inl (by kernel_rfl)) _ ?_
        intro w13 h13 o13
        have o:=hS12.step h13 o13
        have hz13:=o.lz
        have lb13:=o.h3
        clear h13 o13 hS12
        cases okT
        case' true=>
         have V:∃q,s2=some q∧B6 (A0 L q.1) N8=true∧st9=some (q.1+1,q.2):=by
          rcases C.out with ⟨_,h⟩|⟨h,_⟩
          ·exact h
          ·cases h
         obtain⟨k9,b9',D9,G,_⟩:=o.du.dr
         have c29:w13.cell? ⟨bp,2,none⟩=some (.bool b9'):=G.row.cell (i:=2) (by omega)
         have f29:=G.row.frozen 2
         have lb9:=G.row.lt
         have a2:=A1 (i:=2) o.zc rfl
         have f2:=B2 (i:=2) o.zc
         have ai:=(o.set 2 (.int .i64 3)).bad
         have l:=B8m (nm:=nm) e8.out hV1.out hsb.out V b9.out
         replace G:=hd G
         replace o:=hd o
         replace l:=hd l
         clear C
         go_wp2_with (fail)
        case' false=>
         obtain⟨e9,V⟩:st9=s2∧∀q,s2=some q→B6 (A0 L q.1) N8=false:=by
          rcases C.out with ⟨h,_⟩|⟨_,h⟩
          ·cases h
          ·exact h
         replace e9:=hd e9
         replace V:=hd V
         go_wp2_with (fail)
         refine A9A o.du _ ?_
         intro w14 ty h14 o14 hty
         have m:=o.step h14 o14
         have hz14:=m.lz
         have a2:=A1 (i:=2) m.zc rfl
         have f2:=B2 (i:=2) m.zc
         have ai:=m.set 2 (.int .i64 (ty:Int))
         have l:=B90 hdg.out ac.out hV2.out e8.out hsb.out esz.out e9.out V.out b9.out hty
         replace m:=hd m
         replace l:=hd l
         clear h14 o14 o C hty V
         go_wp2_with (fail)
       case' inr=>
        subst hA
        obtain⟨e10,b9⟩:st10=st9∧∀q,st9=some q→B6 (A0 L q.1) R3=false:=by
         rcases Y with ⟨h,_⟩|⟨_,h⟩
         ·cases h
         ·exact h
        have hz13:=k.lz
        have lb13:=k.h3
        replace e10:=hd e10
        replace b9:=hd b9
        replace C:=hd C
        clear Y
        cases okT
        case' true=>
         have V:∃q,s2=some q∧B6 (A0 L q.1) N8=true∧st9=some (q.1+1,q.2):=by
          rcases C.out with ⟨_,h⟩|⟨h,_⟩
          ·exact h
          ·cases h
         have a2:=A1 (i:=2) k.zc rfl
         have f2:=B2 (i:=2) k.zc
         have ai:=k.set 2 (.int .i64 3)
         have l:=B98 ac.out hV2.out e8.out e10.out V
         replace k:=hd k
         replace l:=hd l
         clear C V b9
         go_wp2_with (fail)
        case' false=>
         obtain⟨e9,V⟩:st9=s2∧∀q,s2=some q→B6 (A0 L q.1) N8=false:=by
          rcases C.out with ⟨h,_⟩|⟨_,h⟩
          ·cases h
          ·exact h
         replace e9:=hd e9
         replace V:=hd V
         go_wp2_with (fail)
         refine A9A k.du _ ?_
         intro w14 ty h14 o14 hty
         have m:=k.step h14 o14
         have hz14:=m.lz
         have a2:=A1 (i:=2) m.zc rfl
         have f2:=B2 (i:=2) m.zc
         have ai:=m.set 2 (.int .i64 (ty:Int))
         have l:=C0c ac.out hV2.out e8.out e9.out e10.out V.out b9.out hty
         replace m:=hd m
         replace l:=hd l
         clear h14 o14 k C hty V b9
         go_wp2_with (fail)
       all_goals
        refine P3 (s:=wSC) ai.du (by decide) (.inr (by kernel_rfl)) _ ?_
        intro Q h15 o15
        obtain⟨kd,sz',b,hf2,hf3⟩:=C0F l.out (ai.step h15 o15) rfl
        clear h15 o15 ai l
        have hz15:=b.lz
        have hh2:=b.h2
        have hh3:=b.h3
        have hh4:=b.h4
        have y0:=A1 (i:=0) b.zc rfl
        have y1:=A1 (i:=1) b.zc rfl
        have y2:=A1 (i:=2) b.zc rfl
        have y3:=A1 (i:=3) b.zc rfl
        have p0:=A1 (i:=0) b.pb rfl
        have pf0:=B2 (i:=0) b.pb
        have aa:some (bp+1)≠(Value.slice ao nn cp).ownBlock:=fun e=>by have:=(hh4 _ e.symm).1;omega
        have hnL:nn≤1000:=by omega
        have hal:(Q.alloc (Obj.cells #[.int .i64 (rl:Int),.string nm,.int .i64 kd,.int .i64 sz'] 102)).heap[bp+1]? =some (.cells #[.slice ao nn cp,.slice none 0 0] 100):=(z6 _ _ _ (by omega)).trans b.pb
        have p0a:=A1 (i:=0) hal rfl
        have hlb15:bp+1<Q.heap.size:=by omega
        have hlo15:lo≤Q.heap.size:=by omega
        replace hh4:=hd hh4
        replace hal:=hd hal
        replace b:=hd b
        replace hf2:=hd hf2
        replace hf3:=hd hf3
        replace aa:=hd aa
        go_wp2_with (fail)
        go_region_law
         (first
          |(refine A0j (by rfl) _ _ 97 (by rfl) lo 102 _ 4 40 C0y A8v rfl (by omega) _ nn (dcL vs) (by rfl) (by exact b.out.ow.alloc _) Q.heap.size 1 1 [.int .i64 (rl:Int),.string nm,.int .i64 kd,.int .i64 sz'] (by rfl) (by exact A2) rfl (C0J _ _ _ _) (by omega) (by unfold maxLen;omega) (by omega) (by simp;omega) ?_;intro g1 cap1 w16 N u hat16;have cx:w16.cell? ⟨bp+1,0,none⟩=some (.slice ao nn cp):=A6L u (A1 (i:=0) hal.out rfl) aa.out;have fx:w16.frozen? ⟨bp+1,0,none⟩=false:=A6M u (B2 (i:=0) hal.out) (by simp;omega) aa.out;replace N:=hd N;replace u:=hd u;replace hat16:=hd hat16))
        all_goals
         have hk16:∀c,c<Q.heap.size→(Value.slice ao nn cp).ownBlock≠some c→w16.heap[c]? =Q.heap[c]? :=fun i hi hne=>(u.out.block i (by simp;omega) (fun e=>hne e.symm)).trans (z6 _ _ _ hi)
         have hz16:Q.heap.size+1≤w16.heap.size:=by have:=u.out.size;simp at this;omega
         have hb16:Below w.heap.size w w16:=(Below.alloc (below_drewN b.out.bl _) (by have:=b.out.h1;show w.heap.size≤Q.heap.size;omega) _).grown u.out (by have:=b.out.h1;simp;omega) (fun x hx=>by have:=(hh4.out x hx).1;have:=b.out.h1;omega)
         have hloop:=hd (b.out.next hk16 (by omega) hb16 (by omega) N.out hV1.out hf2.out hf3.out A.out q1 q2 (by omega) ae.out)
         clear hk16 hb16
         go_wp2
         go_roundg (g0+1)
         case measure=>omega
         case rel=>exact⟨g0,rfl,hloop.out⟩
end
theorem D8 (w:WD)(c:Nat)(R:RP)(a:R (.returned (.bool (I4 c))) w):Calls Tryz.prog 139 #[.int .u8 (c:Int)] w R:=by
 by_cases h:48≤c
 ·have d:decide ((48:Int)≤(c:Int))=true:=(by simp;omega);have e:I4 c=decide ((c:Int)≤57):=(by have:decide ((c:Int)≤57)=decide (c≤57):=(by by_cases b:c≤57<;>simp[b]<;>omega);rw[this];simp[I4,h]);rw[e] at a;replace a:=hd a;go_enter Tryz.func139,Tryz.ntmps139;go_wp2;exact A6 a.out rfl
 ·have d:decide ((48:Int)≤(c:Int))=false:=(by simp;omega);have e:I4 c=false:=(by simp[I4,h]);rw[e] at a;replace a:=hd a;go_enter Tryz.func139,Tryz.ntmps139;go_wp2;exact A6 a.out rfl
theorem J2 (w:WD)(c:Nat)(R:RP)(a:R (.returned (.bool (I3 c))) w):Calls Tryz.prog 138 #[.int .u8 (c:Int)] w R:=by
 have d:decide ((97:Int)≤(c:Int))=decide (97≤c):=(by by_cases h:97≤c<;>simp[h]<;>omega);have f:decide ((c:Int)≤122)=decide (c≤122):=(by by_cases h:c≤122<;>simp[h]<;>omega);have b:decide ((65:Int)≤(c:Int))=decide (65≤c):=(by by_cases h:65≤c<;>simp[h]<;>omega);have i:decide ((c:Int)≤90)=decide (c≤90):=(by by_cases h:c≤90<;>simp[h]<;>omega);by_cases g:97≤c
 ·have m:decide ((97:Int)≤(c:Int))=true:=(by rw[d];simpa using g);by_cases k:c≤122
  ·have n:decide ((c:Int)≤122)=true:=(by rw[f];simpa using k);have e:I3 c=true:=(by simp[I3,g,k]);rw[e] at a;replace a:=hd a;clear d f b i;go_enter Tryz.func138,Tryz.ntmps138;go_wp2;exact A6 a.out rfl
  ·have n:decide ((c:Int)≤122)=false:=(by rw[f];simpa using k);have l:decide ((65:Int)≤(c:Int))=true:=(by simp;omega);have o:decide ((c:Int)≤90)=false:=(by simp;omega);have e:I3 c=false:=(by simp[I3,k];omega);rw[e] at a;replace a:=hd a;clear d f b i;go_enter Tryz.func138,Tryz.ntmps138;go_wp2;exact A6 a.out rfl
 ·have m:decide ((97:Int)≤(c:Int))=false:=(by rw[d];simpa using g);by_cases j:65≤c
  ·have l:decide ((65:Int)≤(c:Int))=true:=(by rw[b];simpa using j);have e:I3 c=decide ((c:Int)≤90):=(by rw[i];simp[I3,g,j]);rw[e] at a;replace a:=hd a;clear d f b i;go_enter Tryz.func138,Tryz.ntmps138;go_wp2;exact A6 a.out rfl
  ·have l:decide ((65:Int)≤(c:Int))=false:=(by rw[b];simpa using j);have e:I3 c=false:=(by simp[I3,g,j]);rw[e] at a;replace a:=hd a;clear d f b i;go_enter Tryz.func138,Tryz.ntmps138;go_wp2;exact A6 a.out rfl
theorem B9h (c:Nat):A81 c=(decide ((65:Int)≤(c:Int))&&decide ((c:Int)≤90)):=by
 unfold A81;congr 1
 ·by_cases h:65≤c<;>simp[h]<;>omega
 ·by_cases h:c≤90<;>simp[h]<;>omega
theorem A7x (w:WD)(s:BA)(E:s.size≤2000000)(R:RP)(a:∀w',Below w.heap.size w w'→R (.returned (.int .u8 (wkV s:Int))) w'):Calls Tryz.prog 140 #[.string s] w R:=by
 have e:∀g,g=w.heap.size→A41 (w.alloc (Obj.cells ((w27.map Value.string).toArray) 9)) w27 (.slice (some ⟨g,0,none⟩) 27 27):=fun g C=>⟨_,27,rfl,z3 _,fun _=>⟨g,rfl,by simp;omega,fun j s v=>A1 (A9 (by omega)) (by simp[v])⟩⟩;have i:=Below.refl w.heap.size w;have f:=Below.alloc (Below.refl w.heap.size w) (z3 _) (Obj.cells ((w27.map Value.string).toArray) 9);replace e:=hd e;replace i:=hd i;replace f:=hd f;replace a:=hd a;go_enter Tryz.func140,Tryz.ntmps140;go_wp2;go_loopw [3,4] (fun z r wr=>∃k:Nat,k≤s.size∧z=.bool (smF s k)∧r=.int .i64 (k:Int)∧wr=w) (fun _ r _=>s.size-(intOf r).toNat);case atStart=>exact⟨0,Nat.zero_le _,rfl,rfl,rfl⟩
 case round=>
  obtain⟨k,A,rfl,rfl,rfl⟩:=hrel;by_cases q:k<s.size
  ·have u:decide ((k:Int)<(s.size:Int))=true:=(by simp;omega);have B:=J4 s k q;have D:(0:Int)≤(k:Int)∧(k:Int)<(s.size:Int):=(by omega);have l:=B9h (bt s k);have b:smF s (k+1)=(smF s k && !A81 (bt s k)):=rfl;by_cases m:(65:Int)≤(bt s k:Int)
   ·have o:decide ((65:Int)≤(bt s k:Int))=true:=(by simpa using m);by_cases n:(bt s k:Int)≤90
    ·have p:decide ((bt s k:Int)≤90)=true:=(by simpa using n);rw[l,o,p] at b;replace b:=hd b;clear l m n;go_wp2;exact⟨⟨k+1,by omega,by rw[b.out];simp,by go_num,by first|rfl|trivial⟩,by simp[intOf];omega⟩
    ·have p:decide ((bt s k:Int)≤90)=false:=(by simpa using n);rw[l,o,p] at b;replace b:=hd b;clear l m n;go_wp2;exact⟨⟨k+1,by omega,by rw[b.out];simp,by go_num,by first|rfl|trivial⟩,by simp[intOf];omega⟩
   ·have o:decide ((65:Int)≤(bt s k:Int))=false:=(by simpa using m);rw[l,o] at b;replace b:=hd b;clear l m;go_wp2;exact⟨⟨k+1,by omega,by rw[b.out];simp,by go_num,by first|rfl|trivial⟩,by simp[intOf];omega⟩
  ·have u:decide ((k:Int)<(s.size:Int))=false:=(by simp;omega);have y:k=s.size:=(by omega);subst y;unfold wkV at a;cases t:smF s s.size with
   |true=>
    by_cases c:s.size≤12
    ·have d:decide ((s.size:Int)≤12)=true:=(by simp;omega);rw[if_pos ⟨t,c⟩] at a;go_wp2;exact A6 (a.out _ i.out) rfl
    ·have d:decide ((s.size:Int)≤12)=false:=(by simp;omega);rw[if_neg (fun x=>c x.2)] at a;cases h:amB s w27 with
     |true=>
      rw[h,if_pos rfl] at a;go_wp2_with (fail);refine V6 _ s (ls:=w27) (by exact e.out _ rfl) (by decide) _ ?_;rw[h];go_wp2;exact A6 (a.out _ f.out) rfl
     |false=>
      rw[h,if_neg (by simp)] at a;go_wp2_with (fail);refine V6 _ s (ls:=w27) (by exact e.out _ rfl) (by decide) _ ?_;rw[h];go_wp2;exact A6 (a.out _ f.out) rfl
   |false=>
    rw[if_neg (fun x=>by rw[t] at x;cases x.1)] at a;cases h:amB s w27 with
    |true=>
     rw[h,if_pos rfl] at a;go_wp2_with (fail);refine V6 _ s (ls:=w27) (by exact e.out _ rfl) (by decide) _ ?_;rw[h];go_wp2;exact A6 (a.out _ f.out) rfl
    |false=>
     rw[h,if_neg (by simp)] at a;go_wp2_with (fail);refine V6 _ s (ls:=w27) (by exact e.out _ rfl) (by decide) _ ?_;rw[h];go_wp2;exact A6 (a.out _ f.out) rfl
def xcL (l:Sl):Int:=min (C0 l) 4001
def xcW:Wl→Int→Int
 |.nil,m=>m
 |.cons _ b t,m=>xcW t (max m (xcL b))
def xcS:Q3→Int
 |.set _ e=>1+cE e
 |.setx _ i e=>1+cE i+cE e
 |.ife c t o=>1+cE c+max (xcL t) (xcL o)
 |.cas e ws o=>1+cE e+cN ws+xcW ws (xcL o)
 |.loop _ f l b=>1+max 0 (l-f+1)*(1+xcL b)
theorem A0a (l:Sl):0≤xcL l∧xcL l≤4001:=by have:=G2 l;unfold xcL;omega
theorem A7q:∀(a:Wl) (m:Int),0≤m→xcW a (min m 4001)=min (cW a m) 4001∧m≤cW a m
 |.nil,m,_=>⟨rfl,Int.le_refl _⟩
 |.cons _ b t,m,h=>by
  have d:=G2 b;have c:=A7q t (max m (C0 b)) (by omega);simp only[xcW,cW];unfold xcL;rw[A4L];exact⟨c.1,by omega⟩
theorem A7D:∀s:Q3,min (xcS s) 4001=min (cS s) 4001∧0≤xcS s
 |.set _ e=>⟨rfl,by have:=B5 e;simp only[xcS];omega⟩
 |.setx _ i e=>⟨rfl,by have:=B5 e;have:=B5 i;simp only[xcS];omega⟩
 |.ife c t o=>by have:=B5 c;have:=G2 t;have:=G2 o;simp only[xcS,cS];unfold xcL;omega
 |.cas e ws o=>by
  have:=B5 e;have:=G2 o;have:=A2I ws;have h:=A7q ws (C0 o) (by omega);simp only[xcS,cS];unfold xcL;rw[h.1];omega
 |.loop _ f l b=>by
  have h:=G2 b;simp only[xcS,cS];unfold xcL;refine⟨A5M (by decide) (by omega) h,?_⟩;have:=Int.mul_nonneg (show (0:Int)≤max 0 (l-f+1) by omega) (show (0:Int)≤1+min (C0 b) 4001 by omega);omega
theorem B1Z (done:Sl)(s:Q3):xcL (done.app (.cons s .nil))=min (xcL done+xcS s) 4001:=by have b:=G2 done;have c:=A2L s;have a:=(A7D s).1;unfold xcL;rw[B1n];simp only[C0];omega
def A7F (kk:Ex→Int)(s:Q3):Prop:=∀{lo hi t:Nat}{u:VL}{w:WD},Z9 kk s lo hi w (.iface t u)→hi≤w.heap.size→∀(R:RP),(∀w',Below w.heap.size w w'→R (.returned (.int .i64 (xcS s))) w')→Calls Tryz.prog (A6v s) #[u] w R
def A2r (kk:Ex→Int):Sl→Prop
 |.nil=>True
 |.cons h t=>(A7F kk h∧xcS h≤100000000000000)∧A2r kk t
theorem A2c {kk:Ex→Int}{l:Sl}(U:A2r kk l)(M:l.len≤1000000){lo hi r:Nat}{P:VL}{g:Option Nat}{xs:List VL}{w:WD}(k:w.ownsRow r 240 1 P l.len xs)(E:G1 kk g l lo hi w xs)(hh:hi≤w.heap.size)(R:RP)(n:∀w',Below w.heap.size w w'→R (.returned (.int .i64 (xcL l))) w'):Calls Tryz.prog 71 #[P] w R:=by
 obtain⟨bo,T,rfl,Q,m⟩:=H5 k;replace n:=hd n;replace m:=hd m;replace k:=hd k;replace E:=hd E;go_enter Tryz.func71,Tryz.ntmps71;go_wp2;go_loopw [3,5,8] (fun sv _ H wr=>∃(i:Nat) (done f:Sl),H=.int .i64 (i:Int)∧sv=.int .i64 (xcL done)∧l=done.app f∧i=done.len∧Below w.heap.size w wr∧A2r kk f) (fun _ _ H _=>l.len-(intOf H).toNat);case atStart=>exact⟨0,.nil,l,rfl,rfl,rfl,rfl,Below.refl _ _,U⟩
 case round=>
  obtain⟨i,done,f,rfl,rfl,e,j,d,o⟩:=hrel;rename WD=>wr;have h:l.len=done.len+f.len:=(by rw[e,Sl.len_app]);cases f with
  |nil=>
   simp only[Sl.len] at h;have V:decide ((i:Int)<(l.len:Int))=false:=(by simp;omega);have C:¬i<l.len:=(by omega);have q:xcL done=xcL l:=(by rw[e,Sl.app_nil]);rw[q];clear h j e q;replace d:=hd d;go_wp2;exact A6 (n.out _ d.out) rfl
  |cons s t=>
   simp only[Sl.len] at h;have V:decide ((i:Int)<(l.len:Int))=true:=(by simp;omega);have C:i<l.len:=(by omega);obtain⟨v,a,b,A,p2,p3,p4,y⟩:=G1.at (done:=done) (s:=s) (t:=t) (by rw[←e];exact E.out);obtain⟨N,uv,rfl⟩:=y.iface;have D:=A80 y;have X:=D.m;have Z:=D.c;obtain⟨K,rfl,Y,z,L⟩:=m.out (by omega);rw[←j] at A;have c1:wr.cell? ⟨K,i,none⟩=some (.iface N uv):=(d.cell (p:=⟨K,i,none⟩) z).trans (L i _ A);have j0:(0:Int)≤(i:Int)∧(i:Int)<(l.len:Int):=(by omega);have u:A7F kk s:=o.1.1;have cC:=hd (fun (W:WD)=>@u a b N uv W);have S:=(A7D s).2;have hsl:=o.1.2;have hxb:=A0a done;have I:=hd (y.keep (w':=wr) (fun c _ _ _ _ h2 _ _=>d.block c (by omega)));have F:b≤wr.heap.size:=(by have:=d.size;omega);have e1:IntKind.i64.wrap (xcL done+xcS s)=xcL done+xcS s:=z4 _ (by omega);have B:=B1Z done s;have J:(done.app (.cons s .nil)).len=done.len+1:=(by rw[Sl.len_app];rfl);have G:l=(done.app (.cons s .nil)).app t:=(by rw[e,Sl.app_assoc];rfl);generalize A6v s=FS at*;generalize xcS s=ks at*;generalize x:xcL done=kd at*;replace h:=hd h;replace j:=hd j;replace e:=hd e;replace d:=hd d;replace B:=hd B;replace J:=hd J;replace G:=hd G;replace x:=hd x;clear L D u y A;go_wp2_with (fail);refine cC.out _ I.out F _ ?_;intro w1 O;have hB:=hd (d.out.trans (O.mono d.out.size));clear O d;go_wp2;exact⟨⟨i+1,done.app (.cons s .nil),t,by go_num,by rw[B.out],G.out,by rw[J.out,j.out],hB.out,o.2⟩,by have:=h.out;have:=j.out;simp[intOf];omega⟩
theorem B4J {kk:Ex→Int}{l:Sl}(v:A2r kk l)(c:l.len≤1000000){lo hi e:Nat}{n h f:Option Addr}{i q p m bc:Nat}{g:Option Nat}{xs:List VL}{w:WD}(d:w.ownsRow e 240 1 (.slice f l.len bc) l.len xs)(u:G1 kk g l lo hi w xs)(s:hi≤w.heap.size)(R:RP)(b:∀w',Below w.heap.size w w'→R (.returned (.int .i64 (1+xcL l))) w'):Calls Tryz.prog 45 #[.agg #[.slice n i q,.slice h p m,.slice f l.len bc]] w R:=by replace b:=hd b;have t:=A0a l;have z:IntKind.i64.wrap (1+xcL l)=1+xcL l:=z4 _ (by omega);have a:Below w.heap.size w (w.alloc (Obj.cells #[.slice n i q,.slice h p m,.slice f l.len bc] 87)):=(Below.refl _ w).alloc (z3 _) _;have x:=hd (A5 d (fun j _ _ r=>a.block j r));have y:=hd (u.below a s);go_enter Tryz.func45,Tryz.ntmps45;go_wp2_with (fail);refine A2c v c x.out y.out (by simp;omega) _ ?_;intro w1 o;have hB:=hd (a.trans (o.mono (by simp)));clear o a;generalize xcL l=k at*;go_wp2;exact A6 (b.out _ hB.out) rfl
theorem B7n {kk:Ex→Int}{s:BA}{e:Ex}(c:J7 kk e)(f:cE e≤90000):A7F kk (.set s e):=fun d b R a=>B0P c d b (by have:=B5 e;simp only[cS];omega) (by simp only[cS];omega) R a
theorem B3L {kk:Ex→Int}{s:BA}{i e:Ex}(hi:J7 kk i)(c:J7 kk e)(f:cE i+cE e≤90000):A7F kk (.setx s i e):=fun d b R a=>A8H hi c d b (by have:=B5 e;have:=B5 i;simp only[cS];omega) (by simp only[cS];omega) R a
theorem B5N {kk:Ex→Int}{c:Ex}{t o:Sl}(hc:J7 kk c)(Q:cE c≤100000)(ht:A2r kk t)(V:t.len≤1000000)(ho:A2r kk o)(T:o.len≤1000000):A7F kk (.ife c t o):=by
 intro lo hi tt u w hx hh R h;obtain⟨vc,vt,vo,m1,m2,hv,q1,q2,q3,m,⟨xs,y,J⟩,⟨ys,A,H⟩⟩:=hx;injection hv with e1 e2;subst e1 e2;obtain⟨D,B,rfl⟩:=m.iface;obtain⟨F,g,rfl⟩:=A7 y.1;obtain⟨G,j,rfl⟩:=A7 A.1;have N:=P5 m;have me1:=N.m;have me2:=N.c;simp only[A6v];simp only[xcS] at h;have pe:=B5 c;have pt:=A0a t;have po:=A0a o;obtain⟨Z,C⟩:∃Z,Z=w.alloc (Obj.cells #[.iface D B,.slice F t.len g,.slice G o.len j] 311):=⟨_,rfl⟩;have a:Below w.heap.size w Z:=(by rw[C];exact (Below.refl _ w).alloc (z3 _) _);have I:w.heap.size<Z.heap.size:=(by rw[C];simp);have b:Z.heap[w.heap.size]? =some (.cells #[.iface D B,.slice F t.len g,.slice G o.len j] 311):=(by rw[C];exact A2);have O:hi≤Z.heap.size:=(by omega);have E:E9 kk c lo m1 Z (.iface D B):=m.below a (by omega);have r:=y.below a;have x:=A.below a;have n:=J.belowZ a;have q:=H.belowZ a;have d:∀(X:WD),Below Z.heap.size Z X→X.cell? ⟨w.heap.size,0,none⟩=some (.iface D B)∧X.cell? ⟨w.heap.size,1,none⟩=some (.slice F t.len g)∧X.cell? ⟨w.heap.size,2,none⟩=some (.slice G o.len j):=fun X hX=>by have S:=(hX.block _ I).trans b;exact⟨A1 (i:=0) S rfl,A1 (i:=1) S rfl,A1 (i:=2) S rfl⟩
 obtain⟨p0,p1,p2⟩:=d Z (Below.refl _ _);have c0:=hd (fun (W:WD) (l:Below Z.heap.size Z W)=>@hc lo m1 D B W (E.below l (by omega)) (z8 (by omega) l.size) Q);have Y:=hd (fun (W:WD) (l:Below Z.heap.size Z W) (v:VL) (k:Int) (P:(v=.slice F t.len g∧k=xcL t)∨(v=.slice G o.len j∧k=xcL o)) (L:RP) (s:∀w',Below W.heap.size W w'→L (.returned (.int .i64 k)) w')=>show Calls Tryz.prog 71 #[v] W L from by
  rcases P with ⟨rfl,rfl⟩|⟨rfl,rfl⟩
  ·exact A2c (kk:=kk) ht V (r.below l).1 (n.belowZ l) (z8 (show m2≤Z.heap.size by omega) l.size) L s
  ·exact A2c (kk:=kk) ho T (x.below l).1 (q.belowZ l) (z8 O l.size) L s)
 replace h:=hd h;replace d:=hd d;clear y A J H r x n q E m hc N;generalize cfn c=FL at*;generalize cE c=kc at*;generalize xcL t=kt at*;generalize xcL o=ko at*;generalize t.len=nt at*;generalize o.len=no at*;have U:0≤max kt ko∧max kt ko≤4001:=(by omega);have j1:IntKind.i64.wrap (1+kc)=1+kc:=z4 _ (by omega);have j2:IntKind.i64.wrap (1+kc+max kt ko)=1+kc+max kt ko:=z4 _ (by omega);clear U pe pt po;go_enter Tryz.func316,Tryz.ntmps316;go_wp2_with (fail);rw[←C];replace C:=hd C;replace a:=hd a;replace b:=hd b;generalize M:w.heap.size=z at*;replace M:=hd M;go_region_held3 (fun w'=>w'.cell? ⟨z,0,none⟩=some (.iface D B)∧w'.cell? ⟨z,1,none⟩=some (.slice F nt g)∧w'.cell? ⟨z,2,none⟩=some (.slice G no j)) (first|exact d.out _ ((below_drewN (Below.refl _ Z) 1).trans (f.out.trans ((p.out.trans (K.out.mono p.out.size)).mono f.out.size)))|exact d.out _ ((below_drewN (Below.refl _ Z) 1).trans (f.out.trans (p.out.mono f.out.size)))|exact d.out _ ((below_drewN (Below.refl _ Z) 1).trans f.out)|go_keep)
  (first
   |(go_at_call 71;refine Y.out _ (by exact (below_drewN (Below.refl _ Z) 1).trans f.out) _ _ (by exact .inl ⟨rfl,rfl⟩) _ ?_;intro w2 p;replace p:=hd p)
   |(go_at_call 71;refine Y.out _ (by exact (below_drewN (Below.refl _ Z) 1).trans (f.out.trans (p.out.mono f.out.size))) _ _ (by exact .inr ⟨rfl,rfl⟩) _ ?_;intro w3 K;replace K:=hd K)
   |(refine c0.out _ (by exact below_drewN (Below.refl _ Z) 1) _ ?_;intro w1 f;replace f:=hd f))
 have hB:=hd (show Below w.heap.size w w3 from by have e:=M.out;rw[e];exact a.out.trans (((below_drewN (Below.refl _ Z) 1).trans (f.out.trans ((p.out.trans (K.out.mono p.out.size)).mono f.out.size))).mono (Nat.le_of_lt I)));go_wp2;have e:=M.out;first|exact A6 (h.out _ (by rw[←e];exact hB.out)) rfl|(go_ret;exact A6 (h.out _ (by rw[←e];exact hB.out)) rfl)
def A6t (kk:Ex→Int):Wl→Prop
 |.nil=>True
 |.cons ns b t=>A2r kk b∧b.len≤1000000∧ns.length≤1000∧A6t kk t
theorem A9W:∀(a b:Wl) (m:Int),xcW (a.app b) m=xcW b (xcW a m)
 |.nil,_,_=>rfl
 |.cons _ _ t,b,m=>by simp only[Wl.app,xcW,A9W t b]
theorem A95:∀(a b:Wl),cN (a.app b)=cN a+cN b
 |.nil,_=>by simp[Wl.app,cN]
 |.cons _ _ t,b=>by simp only[Wl.app,cN,A95 t b];omega
theorem B6O {kk:Ex→Int}{e:Ex}{k:Wl}{o:Sl}(he:J7 kk e)(hL1:cE e≤100000)(hw:A6t kk k)(hwl:k.len≤1000)(ho:A2r kk o)(hol:o.len≤1000000):A7F kk (.cas e k o):=by
 intro lo hi tt u w hx hh R E;obtain⟨vc,vw,vo,m1,m2,hv,q1,q2,q3,D,⟨n,xs,C,P⟩,⟨ys,T,hso⟩⟩:=hx;obtain rfl:=C.nW P;injection hv with e1 e2;subst e1 e2;obtain⟨tc,uc,rfl⟩:=D.iface;obtain⟨wa,V,rfl⟩:=A7 C.1;obtain⟨oa,U,rfl⟩:=A7 T.1;have me:=P5 D;have me1:=me.m;have me2:=me.c;simp only[A6v];simp only[xcS] at E;have pe:=B5 e;have po:=A0a o;obtain⟨Z,hZ⟩:∃Z,Z=w.alloc (Obj.cells #[.iface tc uc,.slice wa k.len V,.slice oa o.len U] 314):=⟨_,rfl⟩;have j:Below w.heap.size w Z:=(by rw[hZ];exact (Below.refl _ w).alloc (z3 _) _);have hzl:w.heap.size<Z.heap.size:=(by rw[hZ];simp);have l:Z.heap[w.heap.size]? =some (.cells #[.iface tc uc,.slice wa k.len V,.slice oa o.len U] 314):=(by rw[hZ];exact A2);have hhZ:hi≤Z.heap.size:=(by omega);have hxZ:E9 kk e lo m1 Z (.iface tc uc):=D.below j (by omega);have B:=C.below j;have J:=T.below j;have v:=P.belowZ j;have K:=hso.belowZ j;have y:∀(X:WD),Below Z.heap.size Z X→X.cell? ⟨w.heap.size,0,none⟩=some (.iface tc uc)∧X.cell? ⟨w.heap.size,1,none⟩=some (.slice wa k.len V)∧X.cell? ⟨w.heap.size,2,none⟩=some (.slice oa o.len U):=fun X hX=>by have f:=(hX.block _ hzl).trans l;exact⟨A1 (i:=0) f rfl,A1 (i:=1) f rfl,A1 (i:=2) f rfl⟩
 obtain⟨p0,p1,p2⟩:=y Z (Below.refl _ _);have cO:=hd (fun (R':RP) A=>A2c (kk:=kk) ho hol J.1 K hhZ R' A);replace E:=hd E;replace y:=hd y;clear C T P hso J K D me;go_enter Tryz.func320,Tryz.ntmps320;go_wp2_with (fail);rw[←hZ];replace hZ:=hd hZ;replace j:=hd j;replace l:=hd l;generalize hz:w.heap.size=z at*;replace hz:=hd hz;refine cO.out _ ?_;intro w1 b1;obtain⟨p10,p11,p12⟩:=y.out _ b1;replace b1:=hd b1;clear cO p0 p1 p2;have hmb:0≤xcL o∧xcL o≤4001:=po;generalize xcL o=mo at*;replace B:=hd B;replace v:=hd v;go_wp2;go_loopw [3,4,6,13] (fun sv lv _ iv wr=>∃(i:Nat) (done h:Wl),iv=.int .i64 (i:Int)∧sv=.int .i64 (xcW done mo)∧lv=.int .i64 (cN done)∧k=done.app h∧i=done.len∧Below Z.heap.size Z wr∧A6t kk h∧0≤xcW done mo∧xcW done mo≤4001∧0≤cN done∧cN done≤1000*i) (fun _ _ _ iv _=>k.len-(intOf iv).toNat);case atStart=>exact⟨0,.nil,k,rfl,rfl,rfl,rfl,rfl,b1.out,hw,hmb.1,hmb.2,by simp[cN],by simp[cN]⟩
 case round=>
  obtain⟨i,done,h,rfl,rfl,rfl,d,x,f,hok,e1,e2,e3,e4⟩:=hrel;rename WD=>wr;have s:k.len=done.len+h.len:=(by rw[d,Wl.len_app]);cases h with
  |nil=>
   simp only[Wl.len] at s;have td:decide ((i:Int)<(k.len:Int))=false:=(by simp;omega);have hnl:¬i<k.len:=(by omega);rw[Wl.app_nil] at d;subst d;obtain⟨p0,_,_⟩:=y.out _ f;have hx3:=hd (hxZ.below f (by omega));have hs3:m1≤wr.heap.size:=(by have:=f.size;omega);have cC:=hd (fun (W:WD)=>@he lo m1 tc uc W);clear he;generalize cE e=ke at*;generalize cfn e=FL at*;generalize cN k=kn at*;generalize xcW k mo=kw at*;have j1:IntKind.i64.wrap (1+ke)=1+ke:=z4 _ (by omega);have j2:IntKind.i64.wrap (1+ke+kn)=1+ke+kn:=z4 _ (by omega);have j3:IntKind.i64.wrap (1+ke+kn+kw)=1+ke+kn+kw:=z4 _ (by omega);replace f:=hd f;clear s x;go_wp2_with (fail);refine cC.out _ hx3.out hs3 hL1 _ ?_;intro w4 b4;have hB:=hd (show Below w.heap.size w w4 from by have e:=hz.out;rw[e];exact j.out.trans ((f.out.trans (b4.mono f.out.size)).mono (Nat.le_of_lt hzl)));clear b4;go_wp2;have e:=hz.out;exact A6 (E.out _ (by rw[←e];exact hB.out)) rfl
  |cons ns b t=>
   simp only[Wl.len] at s;have td:decide ((i:Int)<(k.len:Int))=true:=(by simp;omega);have hnl:i<k.len:=(by omega);obtain⟨k1,k2,k4,k5⟩:=hok;have I:=B.out.below f;have L:=v.out.belowZ f;obtain⟨vn,vb,a,m,c,zs,x1,x2,y1,y2,y3,y4,hrn,N,hsb⟩:=O5.at (done:=done) (ns:=ns) (b:=b) (t:=t) (by rw[←d];exact L);obtain⟨g,cap,cur,hge,hgh,hgs,Y,O⟩:=I.two (by omega);injection hge with e1' _ e2';subst e1' e2';obtain⟨M,p,rfl⟩:=A7 hrn.1;obtain⟨ba,r,rfl⟩:=A7 N.1;rw[←x] at x1 x2;have c1:wr.cell? ⟨g,i*2,none⟩=some (.slice M ns.length p):=A1 Y (O _ _ x1);have c2:wr.cell? ⟨g,i*2+1,none⟩=some (.slice ba b.len r):=A1 Y (O _ _ x2);have j0:(0:Int)≤(i:Int)∧(i:Int)<(k.len:Int):=(by omega);have H:Below Z.heap.size Z (wr.alloc (Obj.cells #[.slice M ns.length p,.slice ba b.len r] 317)):=f.alloc f.size _;have Q:=(Below.refl _ wr).alloc (z3 _) (Obj.cells #[.slice M ns.length p,.slice ba b.len r] 317);have hrb1:=hd (N.below Q);have hsb1:=hd (hsb.belowZ Q);have hcs:c≤(wr.alloc (Obj.cells #[.slice M ns.length p,.slice ba b.len r] 317)).heap.size:=(by have:=f.size;simp;omega);have q:(wr.alloc (Obj.cells #[.slice M ns.length p,.slice ba b.len r] 317)).heap[wr.heap.size]? =some (.cells #[.slice M ns.length p,.slice ba b.len r] 317):=A2;have hcb:=A0a b;have cC:=hd (fun (R':RP) A=>A2c (kk:=kk) k1 k2 hrb1.out.1 hsb1.out hcs R' A);have G:xcW (done.app (.cons ns b .nil)) mo=max (xcW done mo) (xcL b):=(by rw[A9W];rfl);have F:cN (done.app (.cons ns b .nil))=cN done+ns.length:=(by rw[A95];simp[cN]);have j5:IntKind.i64.wrap (cN done+(ns.length:Int))=cN done+(ns.length:Int):=z4 _ (by omega);generalize xcL b=kb at*;replace f:=hd f;replace H:=hd H;replace s:=hd s;replace x:=hd x;replace d:=hd d;replace G:=hd G;replace F:=hd F;replace q:=hd q;clear O I L x1 x2 hrn N hsb Q Y;go_wp2_with (fail);refine cC.out _ ?_;intro w3 b3;have S:=(b3.block wr.heap.size (by simp)).trans q.out;have p30:w3.cell? ⟨wr.heap.size,0,none⟩=some (.slice M ns.length p):=A1 (i:=0) S rfl;have hB3:=hd (H.out.trans (b3.mono H.out.size));replace S:=hd S;clear b3 cC q;go_wp2;refine⟨⟨i+1,done.app (.cons ns b .nil),t,by go_num,by rw[G.out],by rw[F.out],?_,?_,hB3.out,k5,?_⟩,by simp[intOf];omega⟩
   ·rw[d.out,Wl.app_assoc];rfl
   ·rw[Wl.len_app,x.out];rfl
   ·rw[G.out,F.out];omega
end Go.Proofs.YtidhiaaicmfabaaGreatDoor
