/- Texts (its parts, joined). -/
import Derived.Test.YtidhiaaicmfabaaGreatDoorTqBE
open Option renaming bind_some→z0,bind_eq_some_iff→z1,map_eq_some_iff→z2,map_some→z3
open Nat renaming le_of_eq→z5,le_refl→z7
open Array renaming getElem?_eq_some_iff→z6
namespace Go.Proofs.YtidhiaaicmfabaaGreatDoor
open Go.RowKit Go.Proofs Go.Deep
set_option maxRecDepth 100000
set_option maxHeartbeats 4000000
open Below renaming heap_setCell→z4
section
def qE (L:LB):Nat→Nat→Option (Ex×Nat)
 |0,_=>none
 |f+1,k=>
  if B6 (A0 L k) wMI||Y8 (A0 L k) then (D2 L k).bind (fun p=>some (.lit p.1,p.2))
  else if O7 (A0 L k) then
   (if B6 (A0 L (k+1)) wLB then (qE L f (k+2)).bind (fun p=>(xS L wRB p.2).bind (fun k'=>some (.idx (A0 L k) p.1,k'))) else some (.plc (A0 L k),k+1))
  else if B6 (A0 L k) V5 then some (.tru true,k+1)
  else if B6 (A0 L k) Q0 then some (.tru false,k+1)
  else if B6 (A0 L k) wLP then
   (qE L f (k+1)).bind (fun p=>(opP L p.2).bind (fun o=>(qE L f (p.2+1)).bind (fun q=>(xS L wRP q.2).bind (fun k'=>some (.bin o p.1 q.1,k')))))
  else if B6 (A0 L k) A1K then (qE L f (k+1)).bind (fun p=>some (.neg p.1,p.2))
  else if B6 (A0 L k) R4 then (qE L f (k+1)).bind (fun p=>some (.sho p.1,p.2))
  else if B6 (A0 L k) A3u then
   (((xS L wLP (k+1)).bind (xN L)).bind (xS L wCM)).bind (fun b=>(qE L f b).bind (fun p=>(xS L wCM p.2).bind (fun a=>(qE L f a).bind (fun q=>(xS L wRP q.2).bind (fun k'=>some (.dly (A0 L (k+2)) p.1 q.1,k'))))))
  else none
theorem D3 {A:Type}{c:Prop}[Decidable c]{x:Option A}{a:A}:(if c then x else none)=some a↔c∧x=some a:=by split<;>simp_all
theorem A10 {L:LB}{s:BA}{k k':Nat}:xS L s k=some k'↔B6 (A0 L k) s=true∧k'=k+1:=by unfold xS;rw[D3];exact⟨fun h=>⟨h.1,by injection h.2 with e;exact e.symm⟩,fun h=>⟨h.1,by rw[h.2]⟩⟩
theorem A4S {L:LB}{k k':Nat}:xN L k=some k'↔O7 (A0 L k)=true∧k'=k+1:=by unfold xN;rw[D3];exact⟨fun h=>⟨h.1,by injection h.2 with e;exact e.symm⟩,fun h=>⟨h.1,by rw[h.2]⟩⟩
theorem A0V {L:LB}:∀(f k d:Nat) (e:Ex) (k':Nat),d≤10→(pE L f k d=some (e,k')↔qE L f k=some (e,k')∧(d:Int)+C5 e≤10)
 |0,_,_,_,_,_=>by simp[pE,qE]
 |f+1,k,d,e,k',hd=>by
  have g:=fun k e k' (h:d<10)=>A0V (L:=L) f k (d+1) e k' (by omega);rw[pE,qE];by_cases t:(B6 (A0 L k) wMI||Y8 (A0 L k))=true
  ·rw[if_pos t,if_pos t];simp only[z1,Option.some.injEq,Prod.mk.injEq,Prod.exists];constructor
   ·rintro⟨n,k2,h1,rfl,rfl⟩;exact⟨⟨n,_,h1,rfl,rfl⟩,by simp only[C5];omega⟩
   ·rintro⟨⟨n,k2,h1,rfl,rfl⟩,_⟩;exact⟨n,_,h1,rfl,rfl⟩
  ·rw[if_neg t,if_neg t];by_cases v:O7 (A0 L k)=true
   ·rw[if_pos v,if_pos v];by_cases x:B6 (A0 L (k+1)) wLB=true
    ·rw[if_pos x,if_pos x];simp only[D3,z1,Option.some.injEq,Prod.mk.injEq,Prod.exists,A10];constructor
     ·rintro⟨h0,i,k2,h1,h2,rfl,rfl⟩;obtain⟨j,q⟩:=(g _ _ _ h0).1 h1;exact⟨⟨i,k2,j,_,⟨h2,rfl⟩,rfl,rfl⟩,by simp only[C5];omega⟩
     ·rintro⟨⟨i,k2,j,_,⟨h2,rfl⟩,rfl,rfl⟩,c⟩;simp only[C5] at c;have:=B4 i;exact⟨by omega,i,k2,(g _ _ _ (by omega)).2 ⟨j,by omega⟩,h2,rfl,rfl⟩
    ·rw[if_neg x,if_neg x];simp only[Option.some.injEq,Prod.mk.injEq];constructor
     ·rintro⟨rfl,rfl⟩;exact⟨⟨rfl,rfl⟩,by simp only[C5];omega⟩
     ·rintro⟨h,_⟩;exact h
   ·rw[if_neg v,if_neg v];by_cases y:B6 (A0 L k) V5=true
    ·rw[if_pos y,if_pos y];simp only[Option.some.injEq,Prod.mk.injEq];constructor
     ·rintro⟨rfl,rfl⟩;exact⟨⟨rfl,rfl⟩,by simp only[C5];omega⟩
     ·rintro⟨h,_⟩;exact h
    ·rw[if_neg y,if_neg y];by_cases B:B6 (A0 L k) Q0=true
     ·rw[if_pos B,if_pos B];simp only[Option.some.injEq,Prod.mk.injEq];constructor
      ·rintro⟨rfl,rfl⟩;exact⟨⟨rfl,rfl⟩,by simp only[C5];omega⟩
      ·rintro⟨h,_⟩;exact h
     ·rw[if_neg B,if_neg B];by_cases s:B6 (A0 L k) wLP=true
      ·rw[if_pos s,if_pos s];simp only[D3,z1,Option.some.injEq,Prod.mk.injEq,Prod.exists,A10];constructor
       ·rintro⟨h0,a,k2,h1,o,h2,b,k3,j,q,rfl,rfl⟩;obtain⟨c,z⟩:=(g _ _ _ h0).1 h1;obtain⟨m,C⟩:=(g _ _ _ h0).1 j;exact⟨⟨a,k2,c,o,h2,b,k3,m,_,⟨q,rfl⟩,rfl,rfl⟩,by simp only[C5];omega⟩
       ·rintro⟨⟨a,k2,c,o,h2,b,k3,m,_,⟨q,rfl⟩,rfl,rfl⟩,p⟩;simp only[C5] at p;have:=B4 a;have:=B4 b;exact⟨by omega,a,k2,(g _ _ _ (by omega)).2 ⟨c,by omega⟩,o,h2,b,k3,(g _ _ _ (by omega)).2 ⟨m,by omega⟩,q,rfl,rfl⟩
      ·rw[if_neg s,if_neg s];by_cases A:B6 (A0 L k) A1K=true
       ·rw[if_pos A,if_pos A];simp only[D3,z1,Option.some.injEq,Prod.mk.injEq,Prod.exists];constructor
        ·rintro⟨h0,a,k2,h1,rfl,rfl⟩;obtain⟨c,z⟩:=(g _ _ _ h0).1 h1;exact⟨⟨a,_,c,rfl,rfl⟩,by simp only[C5];omega⟩
        ·rintro⟨⟨a,k2,c,rfl,rfl⟩,p⟩;simp only[C5] at p;have:=B4 a;exact⟨by omega,a,_,(g _ _ _ (by omega)).2 ⟨c,by omega⟩,rfl,rfl⟩
       ·rw[if_neg A,if_neg A];by_cases r:B6 (A0 L k) R4=true
        ·rw[if_pos r,if_pos r];simp only[D3,z1,Option.some.injEq,Prod.mk.injEq,Prod.exists];constructor
         ·rintro⟨h0,a,k2,h1,rfl,rfl⟩;obtain⟨c,z⟩:=(g _ _ _ h0).1 h1;exact⟨⟨a,_,c,rfl,rfl⟩,by simp only[C5];omega⟩
         ·rintro⟨⟨a,k2,c,rfl,rfl⟩,p⟩;simp only[C5] at p;have:=B4 a;exact⟨by omega,a,_,(g _ _ _ (by omega)).2 ⟨c,by omega⟩,rfl,rfl⟩
        ·rw[if_neg r,if_neg r];by_cases u:B6 (A0 L k) A3u=true
         ·rw[if_pos u,if_pos u];simp only[D3,z1,Option.some.injEq,Prod.mk.injEq,Prod.exists,A10,A4S];constructor
          ·rintro⟨h0,h1,h2,j,a,k2,q,c,b,k3,z,m,rfl,rfl⟩;obtain⟨C,p⟩:=(g _ _ _ h0).1 q;obtain⟨l,D⟩:=(g _ _ _ h0).1 z;exact⟨⟨_,⟨_,⟨_,⟨h1,rfl⟩,h2,rfl⟩,j,rfl⟩,a,k2,C,_,⟨c,rfl⟩,b,k3,l,_,⟨m,rfl⟩,rfl,rfl⟩,by simp only[C5];omega⟩
          ·rintro⟨⟨_,⟨_,⟨_,⟨h1,rfl⟩,h2,rfl⟩,j,rfl⟩,a,k2,C,_,⟨c,rfl⟩,b,k3,l,_,⟨m,rfl⟩,rfl,rfl⟩,h12⟩;simp only[C5] at h12;have:=B4 a;have:=B4 b;exact⟨by omega,h1,h2,j,a,k2,(g _ _ _ (by omega)).2 ⟨C,by omega⟩,c,b,k3,(g _ _ _ (by omega)).2 ⟨l,by omega⟩,m,rfl,rfl⟩
         ·rw[if_neg u,if_neg u];simp
section
variable (L:LB) (sq:Nat→Option (Sl×Nat)) (sl:Nat→Nat→Option (Sl×Nat))
def qOE (k:Nat):Option (Sl×Nat):=if B6 (A0 L k) A1A then sq (k+1) else some (.nil,k)
def qO (k:Nat):Option (Sl×Nat):=(qOE L sq k).bind (fun p=>(xS L K5 p.2).bind (fun k'=>some (p.1,k')))
def A5h (k:Nat):Option (Q3×Nat):=(qE L (L.length+1) k).bind (fun c=>(xS L A1B c.2).bind (fun a=>(sq a).bind (fun t=>(qO L sq t.2).bind (fun o=>some (.ife c.1 t.1 o.1,o.2)))))
def A23 (k:Nat):Option ((List Int×Sl)×Nat):=(D2 L k).bind (fun n=>(I0 L (L.length+1) n.2).bind (fun a=>(xS L wCO a.2).bind (fun c=>(sq c).bind (fun b=>some ((n.1::a.1,b.1),b.2)))))
def A0U:Nat→Nat→Option (Wl×Nat)
 |0,_=>none
 |f+1,k=>if B6 (A0 L k) A1D then (A23 L sq (k+1)).bind (fun p=>(A0U f p.2).bind (fun q=>some (.cons p.1.1 p.1.2 q.1,q.2))) else some (.nil,k)
def A5b (k:Nat):Option (Q3×Nat):=(qE L (L.length+1) k).bind (fun c=>(xS L wOF c.2).bind (fun b=>(A0U L sq (L.length+1) b).bind (fun a=>(qO L sq a.2).bind (fun o=>some (.cas c.1 a.1 o.1,o.2)))))
def A43 (k:Nat):Option (Q3×Nat):=(xN L k).bind (fun a=>(xS L wAS a).bind (fun d=>(D2 L d).bind (fun f=>(xS L wTO f.2).bind (fun e=>(D2 L e).bind (fun l=>(xS L wDO l.2).bind (fun c=>(sq c).bind (fun b=>(xS L K5 b.2).bind (fun k'=>some (.loop (A0 L k) f.1 l.1 b.1,k')))))))))
def qI (k:Nat):Option (Option Ex×Nat):=if B6 (A0 L (k+1)) wLB then (qE L (L.length+1) (k+2)).bind (fun p=>(xS L wRB p.2).bind (fun k'=>some (some p.1,k'))) else some (none,k+1)
def mkS (s:BA)(x:Option Ex)(e:Ex):Q3:=match x with|none=>.set s e|some i=>.setx s i e
def A7O (k:Nat):Option (Q3×Nat):=(qI L k).bind (fun x=>(xS L wAS x.2).bind (fun a=>(qE L (L.length+1) a).bind (fun e=>some (mkS (A0 L k) x.1 e.1,e.2))))
def qSt (k:Nat):Option (Q3×Nat):=
 if O7 (A0 L k) then A7O L k else if B6 (A0 L k) wIF then A5h L sq (k+1) else if B6 (A0 L k) J5 then A5b L sq (k+1) else if B6 (A0 L k) X3 then A43 L sq (k+1) else none
def qSl:Nat→Nat→Option (Sl×Nat)
 |0,_=>none
 |f+1,k=>if A0b (A0 L k) then (qSt L (qSl f) k).bind (fun p=>(xS L wSC p.2).bind (fun a=>(qSl f a).bind (fun q=>some (.cons p.1 q.1,q.2)))) else some (.nil,k)
def Dpt {A:Type}(p:Nat→Nat→Option (A×Nat))(q:Nat→Option (A×Nat))(b:A→Int):Prop:=∀(k d:Nat) (a:A) (k':Nat),d≤10→(p k d=some (a,k')↔q k=some (a,k')∧(d:Int)+b a≤10)
end
section
variable {L:LB}{sq:Nat→Option (Sl×Nat)}{sl:Nat→Nat→Option (Sl×Nat)}
theorem A9u (f:Dpt sl sq H8):Dpt (A1u L sl) (qO L sq) H8:=by
 intro k d a k' hd;have g:A1u L sl k d=(A7j L sl k d).bind (fun p=>(xS L K5 p.2).bind (fun k'=>some (p.1,k'))):=(by unfold A1u;cases A7j L sl k d<;>rfl);rw[g];unfold qO A7j qOE;by_cases c:B6 (A0 L k) A1A=true
 ·rw[if_pos c,if_pos c];simp only[z1,Option.some.injEq,Prod.mk.injEq,Prod.exists];constructor
  ·rintro⟨l,k2,h1,k3,h2,rfl,rfl⟩;obtain⟨e,b⟩:=(f _ _ _ _ hd).1 h1;exact⟨⟨l,k2,e,_,h2,rfl,rfl⟩,b⟩
  ·rintro⟨⟨l,k2,e,k3,h2,rfl,rfl⟩,b⟩;exact⟨l,k2,(f _ _ _ _ hd).2 ⟨e,b⟩,_,h2,rfl,rfl⟩
 ·rw[if_neg c,if_neg c];simp only[z1,Option.some.injEq,Prod.mk.injEq,Prod.exists];constructor
  ·rintro⟨l,k2,⟨rfl,rfl⟩,k3,h2,rfl,rfl⟩;exact⟨⟨.nil,k,⟨rfl,rfl⟩,_,h2,rfl,rfl⟩,by simp only[H8];omega⟩
  ·rintro⟨⟨l,k2,⟨rfl,rfl⟩,k3,h2,rfl,rfl⟩,b⟩;exact⟨.nil,k,⟨rfl,rfl⟩,_,h2,rfl,rfl⟩
theorem B4M (i:Dpt sl sq H8):Dpt (A6T L sl) (A5h L sq) H7:=by
 intro k d a k' hd;have j:=A9u (L:=L) i;have l:A6T L sl k d=if d<10 then (pE L (L.length+1) k (d+1)).bind (fun c=>(xS L A1B c.2).bind (fun b=>(sl b (d+1)).bind (fun t=>(A1u L sl t.2 (d+1)).bind (fun o=>some (.ife c.1 t.1 o.1,o.2))))) else none:=by
  unfold A6T xE;by_cases h:d<10
  ·simp only[if_pos h,z0];cases pE L (L.length+1) k (d+1) with
   |none=>rfl
   |some c=>
    simp only[z0,z3];cases xS L A1B c.2 with
    |none=>rfl
    |some b=>
     simp only[z0];cases sl b (d+1) with
     |none=>rfl
     |some t=>simp only[z0,z3]
  ·simp only[if_neg h];rfl
 rw[l];unfold A5h;simp only[D3,z1,Option.some.injEq,Prod.mk.injEq,Prod.exists];constructor
 ·rintro⟨h0,c,b,h1,k2,h2,t,k3,h3,o,k4,h4,rfl,rfl⟩;obtain⟨f,p⟩:=(A0V _ _ _ _ _ (by omega)).1 h1;obtain⟨g,n⟩:=(i _ _ _ _ (by omega)).1 h3;obtain⟨e,m⟩:=(j _ _ _ _ (by omega)).1 h4;exact⟨⟨c,b,f,k2,h2,t,k3,g,o,_,e,rfl,rfl⟩,by simp only[H7];omega⟩
 ·rintro⟨⟨c,b,f,k2,h2,t,k3,g,o,k4,e,rfl,rfl⟩,h5⟩;simp only[H7] at h5;have:=B4 c;exact⟨by omega,c,b,(A0V _ _ _ _ _ (by omega)).2 ⟨f,by omega⟩,k2,h2,t,k3,(i _ _ _ _ (by omega)).2 ⟨g,by omega⟩,o,_,(j _ _ _ _ (by omega)).2 ⟨e,by omega⟩,rfl,rfl⟩
theorem A93 (g:Dpt sl sq H8):Dpt (A3V L sl) (A23 L sq) (fun p=>H8 p.2):=by
 intro k d a k' hd;have h:A3V L sl k d=(D2 L k).bind (fun n=>(I0 L (L.length+1) n.2).bind (fun c=>(xS L wCO c.2).bind (fun e=>(sl e d).bind (fun b=>some ((n.1::c.1,b.1),b.2))))):=by
  unfold A3V;cases D2 L k with
  |none=>rfl
  |some n=>
   simp only[z0,z3];cases I0 L (L.length+1) n.2 with
   |none=>rfl
   |some c=>simp only[z0,z3];cases xS L wCO c.2<;>rfl
 rw[h];unfold A23;obtain⟨j,l⟩:=a;simp only[z1,Option.some.injEq,Prod.mk.injEq,Prod.exists];constructor
 ·rintro⟨n,e,h1,c,k2,h2,k3,h3,b,k4,h4,⟨rfl,rfl⟩,rfl⟩;obtain⟨i,f⟩:=(g _ _ _ _ hd).1 h4;exact⟨⟨n,e,h1,c,k2,h2,k3,h3,b,_,i,⟨rfl,rfl⟩,rfl⟩,f⟩
 ·rintro⟨⟨n,e,h1,c,k2,h2,k3,h3,b,k4,h4,⟨rfl,rfl⟩,rfl⟩,f⟩;exact⟨n,e,h1,c,k2,h2,k3,h3,b,_,(g _ _ _ _ hd).2 ⟨h4,f⟩,⟨rfl,rfl⟩,rfl⟩
theorem B0e (e:Dpt sl sq H8):∀f,Dpt (A2j L sl f) (A0U L sq f) A1T
 |0=>fun k d a k' hd=>by simp[A2j,A0U]
 |f+1=>fun k d a k' hd=>by
  have l:=B0e e f;rw[A2j,A0U];by_cases c:B6 (A0 L k) A1D=true
  ·rw[if_pos c,if_pos c];simp only[z1,Option.some.injEq,Prod.mk.injEq,Prod.exists];constructor
   ·rintro⟨ns,b,k1,h1,q,k2,h2,rfl,rfl⟩;obtain⟨g,j⟩:=(A93 e _ _ _ _ hd).1 h1;have j:(d:Int)+H8 b≤10:=j;obtain⟨i,m⟩:=(l _ _ _ _ hd).1 h2;exact⟨⟨ns,b,k1,g,q,_,i,rfl,rfl⟩,by simp only[A1T];omega⟩
   ·rintro⟨⟨ns,b,k1,g,q,k2,i,rfl,rfl⟩,h⟩;simp only[A1T] at h;exact⟨ns,b,k1,(A93 e _ _ _ _ hd).2 ⟨g,by show _+H8 b≤_;omega⟩,q,_,(l _ _ _ _ hd).2 ⟨i,by omega⟩,rfl,rfl⟩
  ·rw[if_neg c,if_neg c];simp only[Option.some.injEq,Prod.mk.injEq];constructor
   ·rintro⟨rfl,rfl⟩;exact⟨⟨rfl,rfl⟩,by simp only[A1T];omega⟩
   ·rintro⟨h,_⟩;exact h
theorem B40 (j:Dpt sl sq H8):Dpt (A6J L sl) (A5b L sq) H7:=by
 intro k d a k' hd;have l:=A9u (L:=L) j;have i:=B0e (L:=L) j (L.length+1);have m:A6J L sl k d=if d<10 then (pE L (L.length+1) k (d+1)).bind (fun c=>(xS L wOF c.2).bind (fun b=>(A2j L sl (L.length+1) b (d+1)).bind (fun t=>(A1u L sl t.2 (d+1)).bind (fun o=>some (.cas c.1 t.1 o.1,o.2))))) else none:=by
  unfold A6J xE;by_cases h:d<10
  ·simp only[if_pos h,z0];cases pE L (L.length+1) k (d+1) with
   |none=>rfl
   |some c=>
    simp only[z0,z3];cases xS L wOF c.2 with
    |none=>rfl
    |some b=>
     simp only[z0];cases A2j L sl (L.length+1) b (d+1) with
     |none=>rfl
     |some t=>simp only[z0,z3]
  ·simp only[if_neg h];rfl
 rw[m];unfold A5b;simp only[D3,z1,Option.some.injEq,Prod.mk.injEq,Prod.exists];constructor
 ·rintro⟨h0,c,b,h1,k2,h2,t,k3,h3,o,k4,h4,rfl,rfl⟩;obtain⟨g,p⟩:=(A0V _ _ _ _ _ (by omega)).1 h1;obtain⟨e,q⟩:=(i _ _ _ _ (by omega)).1 h3;obtain⟨f,n⟩:=(l _ _ _ _ (by omega)).1 h4;exact⟨⟨c,b,g,k2,h2,t,k3,e,o,_,f,rfl,rfl⟩,by simp only[H7];omega⟩
 ·rintro⟨⟨c,b,g,k2,h2,t,k3,e,o,k4,f,rfl,rfl⟩,h5⟩;simp only[H7] at h5;have:=B4 c;exact⟨by omega,c,b,(A0V _ _ _ _ _ (by omega)).2 ⟨g,by omega⟩,k2,h2,t,k3,(i _ _ _ _ (by omega)).2 ⟨e,by omega⟩,o,_,(l _ _ _ _ (by omega)).2 ⟨f,by omega⟩,rfl,rfl⟩
theorem B4S (m:Dpt sl sq H8):Dpt (A59 L sl) (A43 L sq) H7:=by
 intro k d a k' hd;have n:A59 L sl k d=if d<10 then (xN L k).bind (fun c=>(xS L wAS c).bind (fun g=>(D2 L g).bind (fun f=>(xS L wTO f.2).bind (fun i=>(D2 L i).bind (fun l=>(xS L wDO l.2).bind (fun e=>(sl e (d+1)).bind (fun b=>(xS L K5 b.2).bind (fun k'=>some (.loop (A0 L k) f.1 l.1 b.1,k'))))))))) else none:=by
  unfold A59;by_cases h:d<10
  ·simp only[if_pos h,z0];cases xN L k with
   |none=>rfl
   |some c=>
    simp only[z0];cases xS L wAS c with
    |none=>rfl
    |some g=>
     simp only[z0];cases D2 L g with
     |none=>rfl
     |some f=>
      simp only[z0,z3];cases xS L wTO f.2 with
      |none=>rfl
      |some i=>
       simp only[z0];cases D2 L i with
       |none=>rfl
       |some l=>
        simp only[z0,z3];cases xS L wDO l.2 with
        |none=>rfl
        |some e=>
         simp only[z0];cases sl e (d+1) with
         |none=>rfl
         |some b=>simp only[z0,z3]
  ·simp only[if_neg h];rfl
 rw[n];unfold A43;simp only[D3,z1,Option.some.injEq,Prod.mk.injEq,Prod.exists];constructor
 ·rintro⟨h0,c,h1,g,h2,f,i,h3,e,h4,l,k5,h5,k6,h6,b,k7,h7,k8,h8,rfl,rfl⟩;obtain⟨j,o⟩:=(m _ _ _ _ (by omega)).1 h7;exact⟨⟨c,h1,g,h2,f,i,h3,e,h4,l,k5,h5,k6,h6,b,k7,j,_,h8,rfl,rfl⟩,by simp only[H7];omega⟩
 ·rintro⟨⟨c,h1,g,h2,f,i,h3,e,h4,l,k5,h5,k6,h6,b,k7,j,k8,h8,rfl,rfl⟩,h⟩;simp only[H7] at h;have:=O2 b;exact⟨by omega,c,h1,g,h2,f,i,h3,e,h4,l,k5,h5,k6,h6,b,k7,(m _ _ _ _ (by omega)).2 ⟨j,by omega⟩,_,h8,rfl,rfl⟩
theorem B42:Dpt (A3O L) (A7O L) H7:=by
 intro k d a k' hd;have l:A3O L k d=(pI L (L.length+1) k d).bind (fun x=>(xS L wAS x.2).bind (fun b=>(pE L (L.length+1) b d).bind (fun e=>some (mkS (A0 L k) x.1 e.1,e.2)))):=by
  unfold A3O xE;cases pI L (L.length+1) k d with
  |none=>rfl
  |some x=>simp only[z0,z3];cases xS L wAS x.2<;>rfl
 rw[l];unfold A7O;have hi:∀x b,pI L (L.length+1) k d=some (x,b)↔qI L k=some (x,b)∧(∀i,x=some i→(d:Int)+(C5 i+1)≤10):=by
  intro x b;unfold pI qI;by_cases c:B6 (A0 L (k+1)) wLB=true
  ·rw[if_pos c,if_pos c];simp only[D3,z1,Option.some.injEq,Prod.mk.injEq,Prod.exists,A10];constructor
   ·rintro⟨h0,i,k2,h1,h2,rfl,rfl⟩;obtain⟨g,n⟩:=(A0V _ _ _ _ _ (by omega)).1 h1;exact⟨⟨i,k2,g,_,⟨h2,rfl⟩,rfl,rfl⟩,fun j e=>by injection e with e;subst e;omega⟩
   ·rintro⟨⟨i,k2,g,_,⟨h2,rfl⟩,rfl,rfl⟩,h⟩;have:=h i rfl;have:=B4 i;exact⟨by omega,i,k2,(A0V _ _ _ _ _ (by omega)).2 ⟨g,by omega⟩,h2,rfl,rfl⟩
  ·rw[if_neg c,if_neg c];simp only[Option.some.injEq,Prod.mk.injEq];constructor
   ·rintro⟨rfl,rfl⟩;exact⟨⟨rfl,rfl⟩,fun j e=>by cases e⟩
   ·rintro⟨h,_⟩;exact h
 simp only[z1,Option.some.injEq,Prod.mk.injEq,Prod.exists,hi];constructor
 ·rintro⟨x,b,⟨h1,h2⟩,k2,h3,e,k3,h4,rfl,rfl⟩;obtain⟨f,m⟩:=(A0V _ _ _ _ _ hd).1 h4;refine⟨⟨x,b,h1,k2,h3,e,_,f,rfl,rfl⟩,?_⟩;cases x with
  |none=>exact m
  |some i=>have:=h2 i rfl;simp only[mkS,H7];omega
 ·rintro⟨⟨x,b,h1,k2,h3,e,k3,f,rfl,rfl⟩,h⟩;cases x with
  |none=>exact⟨none,b,⟨h1,fun j e=>by cases e⟩,k2,h3,e,_,(A0V _ _ _ _ _ hd).2 ⟨f,h⟩,rfl,rfl⟩
  |some i=>
   simp only[mkS,H7] at h;exact⟨some i,b,⟨h1,fun j e=>by injection e with e;subst e;omega⟩,k2,h3,e,_,(A0V _ _ _ _ _ hd).2 ⟨f,by omega⟩,rfl,rfl⟩
theorem B21 (g:Dpt sl sq H8):Dpt (stP L sl) (qSt L sq) H7:=by
 intro k d a k' hd;unfold stP qSt;by_cases e:O7 (A0 L k)=true
 ·rw[if_pos e,if_pos e];exact B42 _ _ _ _ hd
 ·rw[if_neg e,if_neg e];by_cases f:B6 (A0 L k) wIF=true
  ·rw[if_pos f,if_pos f];exact B4M g _ _ _ _ hd
  ·rw[if_neg f,if_neg f];by_cases b:B6 (A0 L k) J5=true
   ·rw[if_pos b,if_pos b];exact B40 g _ _ _ _ hd
   ·rw[if_neg b,if_neg b];by_cases c:B6 (A0 L k) X3=true
    ·rw[if_pos c,if_pos c];exact B4S g _ _ _ _ hd
    ·rw[if_neg c,if_neg c];simp
end
theorem A4n (L:LB):∀f,Dpt (pSl L f) (qSl L f) H8
 |0=>fun k d a k' hd=>by simp[pSl,qSl]
 |f+1=>fun k d a k' hd=>by
  have b:=A4n L f;rw[pSl,qSl];by_cases c:A0b (A0 L k)=true
  ·rw[if_pos c,if_pos c];simp only[z1,Option.some.injEq,Prod.mk.injEq,Prod.exists];constructor
   ·rintro⟨s,k1,h1,k2,h2,q,k3,h3,rfl,rfl⟩;obtain⟨e,i⟩:=(B21 b _ _ _ _ hd).1 h1;obtain⟨g,j⟩:=(b _ _ _ _ hd).1 h3;exact⟨⟨s,k1,e,k2,h2,q,_,g,rfl,rfl⟩,by simp only[H8];omega⟩
   ·rintro⟨⟨s,k1,e,k2,h2,q,k3,g,rfl,rfl⟩,h⟩;simp only[H8] at h;exact⟨s,k1,(B21 b _ _ _ _ hd).2 ⟨e,by omega⟩,k2,h2,q,_,(b _ _ _ _ hd).2 ⟨g,by omega⟩,rfl,rfl⟩
  ·rw[if_neg c,if_neg c];simp only[Option.some.injEq,Prod.mk.injEq];constructor
   ·rintro⟨rfl,rfl⟩;exact⟨⟨rfl,rfl⟩,by simp only[H8];omega⟩
   ·rintro⟨h,_⟩;exact h
end
section
def rlP (s:BA):Option Nat:=if B6 s wIN then some 0 else if B6 s A5X then some 1 else if B6 s A8h then some 2 else none
def pDs (L:LB):Nat→Nat→Option (List Vd×Nat)
 |0,_=>none
 |f+1,k=>match rlP (A0 L k) with
  |none=>some ([],k)
  |some r=>(vdP L r (k+1)).bind (fun p=>(pDs L f p.2).map (fun q=>(p.1::q.1,q.2)))
def A47 (L:LB)(f r k:Nat):Option (List Vd×Nat):=(vdP L r (k+1)).bind (fun p=>(pDs L f p.2).map (fun q=>(p.1::q.1,q.2)))
theorem A06 {L:LB}{f k r:Nat}(h:rlP (A0 L k)=some r):pDs L (f+1) k=A47 L f r k:=by simp only[pDs,h];rfl
theorem A0z {L:LB}{f k:Nat}(h:rlP (A0 L k)=none):pDs L (f+1) k=some ([],k):=by simp only[pDs,h]
theorem A4h {L:LB}{r k:Nat}{v:Vd}{k':Nat}(h:vdP L r k=some (v,k')):k+3≤k':=by
 unfold vdP at h;obtain⟨t,q,s⟩:=C8 h;obtain⟨g,m,b⟩:=C8 q;obtain⟨H,l,x⟩:=C8 m;have F:=(A17 l).2;have D:=(C9 x).2;obtain⟨G,A,j⟩:=z2.1 s;have C:=(C9 A).2;injection j with _ j;have:g≤t.2:=by
  unfold tyP at b;split at b
  ·injection b with b;rw[←b];simp
  ·split at b
   ·obtain⟨n,d,o⟩:=C8 b;obtain⟨z,y,p⟩:=C8 o;obtain⟨c,a,e⟩:=z2.1 p;have I:=(C9 y).2;have B:z≤c.2:=by
     unfold kdP at a;split at a
     ·injection a with a;rw[←a];simp
     ·split at a
      ·injection a with a;rw[←a];simp
      ·obtain⟨u,i,f⟩:=z2.1 a;have:=(C9 i).2;rw[←f];simp only;omega
    have E:g+1<n.2:=by
     unfold A2n at d;split at d
     ·injection d with d;rw[←d];simp
     ·cases d
    rw[←e];simp only;omega
   ·obtain⟨c,a,e⟩:=z2.1 b;have B:g≤c.2:=by
     unfold kdP at a;split at a
     ·injection a with a;rw[←a];simp
     ·split at a
      ·injection a with a;rw[←a];simp
      ·obtain⟨u,i,f⟩:=z2.1 a;have:=(C9 i).2;rw[←f];simp only;omega
    rw[←e];simp only;omega
 omega
section
variable {B bp:Nat}{pv:VL}{L:LB}{st:Option Nat}{d:Int}{us:LB}{uv:VL}{w:WD}
theorem B8u (h:Pu B bp pv L d st us uv w)(R:RP)(b:∀k rl,st=some k→rlP (A0 L k)=some rl→∀w',Pu B bp pv L d (some (k+1)) us uv w'→Fu bp uv uv w w'→R (.returned (.tuple #[.int .u8 ((rl:Nat):Int),.bool true])) w')(t:(∀k,st=some k→rlP (A0 L k)=none)→∀w',Pu B bp pv L d st us uv w'→Fu bp uv uv w w'→R (.returned (.tuple #[.int .u8 0,.bool false])) w'):Calls Tryz.prog 130 #[.pointer (some ⟨bp,0,none⟩)] w R:=by
 replace b:=hd b;replace t:=hd t;go_enter Tryz.func130,Tryz.ntmps130;go_wp2_with (fail);refine A5j (s:=wIN) h (by decide) _ ?_ ?_
 ·intro k a o w1 g c;have f:rlP (A0 L k)=some 0:=(by unfold rlP;rw[if_pos o]);replace g:=hd g;replace c:=hd c;go_wp2;exact A6 (b.out k 0 a f _ g.out c.out) rfl
 ·intro m w1 g c;go_wp2_with (fail);refine A5j (s:=A5X) g (by decide) _ ?_ ?_
  ·intro k a o v j l;have f:rlP (A0 L k)=some 1:=(by unfold rlP;rw[m k a,if_pos o];rfl);have u:=hd (c.trans l);replace j:=hd j;clear c l g;go_wp2;exact A6 (b.out k 1 a f _ j.out u.out) rfl
  ·intro p v j l;go_wp2_with (fail);refine A5j (s:=A8h) j (by decide) _ ?_ ?_
   ·intro k a o w3 i n;have f:rlP (A0 L k)=some 2:=(by unfold rlP;rw[m k a,p k a,if_pos o];rfl);have q:=hd ((c.trans l).trans n);replace i:=hd i;clear c l n g j;go_wp2;exact A6 (b.out k 2 a f _ i.out q.out) rfl
   ·intro r w3 i n;have f:∀k,st=some k→rlP (A0 L k)=none:=fun k e=>by unfold rlP;rw[m k e,p k e,r k e];rfl
    have q:=hd ((c.trans l).trans n);replace i:=hd i;replace f:=hd f;replace m:=hd m;replace p:=hd p;replace r:=hd r;clear c l n g j;go_wp2;exact A6 (t.out f.out _ i.out q.out) rfl
def lkU (L:LB)(st:Option Nat):BA:=match st with
 |some k=>A0 L k
 |none=>⟨#[]⟩
theorem B8M (h:Pu B bp pv L d st us uv w)(R:RP)(a:∀w',Pu B bp pv L d st us uv w'→Fu bp uv uv w w'→R (.returned (.string (lkU L st))) w'):Calls Tryz.prog 134 #[.pointer (some ⟨bp,0,none⟩)] w R:=by
 cases st with
 |none=>exact A7V (h:Pn B bp pv L d us uv w) R a
 |some k=>exact A7c (h:Ps B bp pv L k d us uv w) R a
theorem Pu.c3 (h:Pu B bp pv L d st us uv w):w.cell? ⟨bp,3,none⟩=some uv:=by
 cases st with
 |some k=>exact Ps.pa (h:Ps B bp pv L k d us uv w) |>.row.cell (i:=3) (by omega)
 |none=>exact Pn.pa (h:Pn B bp pv L d us uv w) |>.row.cell (i:=3) (by omega)
theorem Pu.c4 (h:Pu B bp pv L d st us uv w):w.cell? ⟨bp,4,none⟩=some (.bool st.isNone):=by
 cases st with
 |some k=>exact Ps.pa (h:Ps B bp pv L k d us uv w) |>.row.cell (i:=4) (by omega)
 |none=>exact Pn.pa (h:Pn B bp pv L d us uv w) |>.row.cell (i:=4) (by omega)
theorem Pu.own (h:Pu B bp pv L d st us uv w):w.ownsRow B 9 1 uv us.length (N6 us):=by
 cases st with
 |some k=>exact Ps.own (h:Ps B bp pv L k d us uv w)
 |none=>exact Pn.own (h:Pn B bp pv L d us uv w)
theorem Pu.kle {k:Nat}(h:Pu B bp pv L d (some k) us uv w):k≤L.length∧L.length≤1000000:=⟨Ps.pa (h:Ps B bp pv L k d us uv w) |>.le,Ps.pa (h:Ps B bp pv L k d us uv w) |>.sm⟩
theorem V3 (k:Pu B bp pv L d st us uv w){c:VL}{w':WD}(g:Fu bp uv c w w'){a T e n:Nat}{lv:VL}{xs:List VL}(h:w.ownsRow a T e lv n xs)(i:T≠9)(l:bp<a):w'.ownsRow a T e lv n xs:=
 A5 h (fun j f _ _=>by
  obtain⟨cur,b⟩:=G6 h f;exact (k.apart b i (by have:=(h.lt j f).1;omega) g).trans b.symm)
theorem G9.fuU {a:Nat→Int}{lo:Nat}{vs:List Vd}{e:List Nat}{c:VL}{w':WD}(h:G9 a lo w vs e)(i:Pu B bp pv L d st us uv w)(g:Fu bp uv c w w')(j:bp<lo):G9 a lo w' vs e:=
 h.keep (fun b cur k f=>(i.apart f (by decide) (by omega) g).trans f.symm)
end
section
variable {B bp:Nat}{pv:VL}{L:LB}{st:Option Nat}{d:Int}{us:LB}{uv:VL}{w:WD}
theorem B3k (h:Pu B bp pv L d st us uv w)(R:RP)(b:∀w' rl e a,Pu B bp pv L d a us uv w'→Fu bp uv uv w w'→((e=true∧∃k,st=some k∧rlP (A0 L k)=some rl∧a=some (k+1))∨(e=false∧a=st∧∀k,st=some k→rlP (A0 L k)=none))→R (.returned (.tuple #[.int .u8 ((rl:Nat):Int),.bool e])) w'):Calls Tryz.prog 130 #[.pointer (some ⟨bp,0,none⟩)] w R:=
 B8u h R (fun k rl g i w' f c=>b w' rl true (some (k+1)) f c (.inl ⟨rfl,k,g,i,rfl⟩)) (fun j w' f c=>b w' 0 false st f c (.inr ⟨rfl,rfl,j⟩))
end
def pP (L:LB):Option ((List Vd×Sl)×Nat):=(pDs L (L.length+1) 0).bind (fun p=>(xS L P2 p.2).bind (fun b=>(pSl L (L.length+1) b 0).bind (fun q=>(xS L K5 q.2).bind (fun a=>if B6 (A0 L a) ⟨#[]⟩ then some ((p.1,q.1),a) else none))))
theorem B61 {L:LB}{c:Option (List Vd×Nat)}{a b:Option Nat}{f:Option (Sl×Nat)}(i:c=pDs L (L.length+1) 0)(j:a=(c.map (·.2)).bind (xS L P2))(l:f=a.bind (fun k=>pSl L (L.length+1) k 0))(h:b=(f.map (·.2)).bind (xS L K5)):(pP L).map (·.2)=b.bind (fun k=>if B6 (A0 L k) ⟨#[]⟩ then some k else none)∧∀vs body k,pP L=some ((vs,body),k)→∃d g,c=some (vs,d)∧f=some (body,g):=by
 unfold pP;rw[←i];subst h l j;cases c with
 |none=>exact⟨rfl,fun vs body k e=>by cases e⟩
 |some p=>
  simp only[z0,z3];cases xS L P2 p.2 with
  |none=>exact⟨rfl,fun vs body k e=>by cases e⟩
  |some d=>
   simp only[z0];cases pSl L (L.length+1) d 0 with
   |none=>exact⟨rfl,fun vs body k e=>by cases e⟩
   |some q=>
    simp only[z0,z3];cases xS L K5 q.2 with
    |none=>exact⟨rfl,fun vs body k e=>by cases e⟩
    |some g=>
     simp only[z0];cases B6 (A0 L g) ⟨#[]⟩ with
     |false=>exact⟨rfl,fun vs body k e=>by cases e⟩
     |true=>
      refine⟨rfl,fun vs body k e=>⟨p.2,q.2,?_,?_⟩⟩
      ·injection e with e;injection e with e _;injection e with e _;rw[←e]
      ·injection e with e;injection e with e _;injection e with _ e;rw[←e]
theorem nmt (s:BA):(s.toList==[])=B6 s ⟨#[]⟩:=by unfold B6;have:(⟨#[]⟩:BA).toList=[]:=(by kernel_rfl);rw[this]
theorem Pu.nfail {B bp:Nat}{pv:VL}{L:LB}{st:Option Nat}{d:Int}{us:LB}{uv:VL}{w:WD}(h:Pu B bp pv L d st us uv w)(R:RP)(a:∀w',Pu B bp pv L d none us uv w'→Fu bp uv uv w w'→R (.returned (.tuple #[])) w'):Calls Tryz.prog 135 #[.pointer (some ⟨bp,0,none⟩)] w R:=by
 cases st with
 |none=>exact A4P (h:Pn B bp pv L d us uv w) R a
 |some k=>exact A4R (h:Ps B bp pv L k d us uv w) R a
structure B3n (B bp:Nat)(pv:VL)(L:LB)(us:LB)(uv:VL)(w:WD)(d:Option (List Vd×Nat))(i:Option Addr)(c h:Nat)(rl:Nat)(g:Bool)(wr:WD)(f:Nat):Prop where
 ex:∃a e,Fu bp uv uv w wr∧wr.ownsRow w.heap.size 144 1 (.slice i c h) c (A3h e)∧G9 (fun _=>0) w.heap.size wr a e∧c=a.length∧(∀x∈e,x<wr.heap.size)∧wr.heap[w.heap.size]? =some (.cells #[.slice none 0 0,.slice none 0 0,.slice none 0 0] 87)∧
  ((g=false∧Pu B bp pv L ((0:Nat):Int) (d.map (·.2)) us uv wr∧∀l k',d=some (l,k')→a=l)∨
   (g=true∧∃b,Pu B bp pv L ((0:Nat):Int) (some (b+1)) us uv wr∧c≤b∧L.length<b+1+f∧d=(A47 L f rl b).map (fun q=>(a++q.1,q.2))))
theorem B8s {B bp:Nat}{pv:VL}{L:LB}{us:LB}{uv:VL}{w:WD}(hL:A0f L)(h:Ps B bp pv L 0 ((0:Nat):Int) us uv w)(he:Er bp w)(R:RP)(fin:∀w' vo vn vc Z un uc bo bn bc us',Pu B bp pv L ((0:Nat):Int) ((pP L).map (·.2)) us' (.slice Z un uc) w'→Fu bp uv (.slice Z un uc) w w'→(∀vs body k,pP L=some ((vs,body),k)→∃bs xs,vn=vs.length∧bn=body.len∧B55 w w' B vs bs (us++E0 body) body xs (.slice vo vn vc) (.slice Z un uc) (.slice bo bn bc))→R (.returned (.agg #[.slice vo vn vc,.slice Z un uc,.slice bo bn bc])) w'):Calls Tryz.prog 68 #[.pointer (some ⟨bp,0,none⟩)] w R:=by
 have hu:Pu B bp pv L ((0:Nat):Int) (some 0) us uv w:=h;have j:=hu.lt;have J:bp≠w.heap.size:=(by omega);have hB0:=hu.le;obtain⟨hkl,hsm⟩:=hu.kle;obtain⟨r0,er⟩:∃r,r=pDs L (L.length+1) 0:=⟨_,rfl⟩;replace fin:=hd fin;clear h;go_enter Tryz.func68,Tryz.ntmps68;go_wp2_with (fail);refine B3k (hu.alloc _) _ ?_;intro w1 rl ok st1 h1 hf1 hh1;have hb1:=(hu.alloc (Obj.cells #[.slice none 0 0,.slice none 0 0,.slice none 0 0] 87)).apart A2 (by decide) J hf1;have hL1:B3n B bp pv L us uv w r0 none 0 0 rl ok w1 L.length:=by
  refine⟨[],[],(Fu.of_below ((Below.refl _ w).alloc (z7 _) _)).trans hf1,World.ownsRow_nil _ _ _ _,⟨rfl,List.Pairwise.nil,fun i v b hv _=>by simp at hv⟩,rfl,fun x y=>by simp at y,hb1,?_⟩;rcases hh1 with ⟨S,k,e2,e3,e4⟩|⟨S,e2,e3⟩
  ·injection e2 with e2;subst e2;refine .inr ⟨S,0,by rw[←e4];exact h1,z7 _,by omega,?_⟩;rw[er,A06 e3];cases A47 L L.length rl 0<;>rfl
  ·have e5:r0=some ([],0):=(by rw[er,A0z (e3 0 rfl)]);refine .inl ⟨S,by rw[e5];rw[e2] at h1;exact h1,fun l k' e=>?_⟩;rw[e5] at e;injection e with e;injection e
 replace hL1:=hd hL1;clear h1 hf1 hb1 hh1;go_wp2;go_loopg [3,4,5] (L.length+1) (fun gk lv rvv okv wr=>∃rl ok ao K cp gf,(ok=true→gf+1=gk)∧rvv=.int .u8 ((rl:Nat):Int)∧okv=.bool ok∧lv=.slice ao K cp∧B3n B bp pv L us uv w r0 ao K cp rl ok wr gf);case atStart=>exact⟨rl,ok,none,0,0,L.length,fun _=>rfl,rfl,rfl,rfl,hL1.out⟩
 case round=>
  obtain⟨rl2,ok2,ao,K,cp,gf,hgf,rfl,rfl,rfl,vds,bs,F,C,Q,hnn,hbs,hbr,hh⟩:=hrel;clear hL1;rcases hh with ⟨rfl,m,hq⟩|⟨rfl,k0,m,hk0,hkf,hr0⟩
  ·have heA:=hu.er he F;replace hnn:=hd hnn;replace C:=hd C;replace F:=hd F;replace hq:=hd hq;go_wp2_with (fail);refine A0x (s:=P2) m (by decide) _ ?_;obtain⟨stB,eB⟩:∃s,s=(r0.map (·.2)).bind (xS L P2):=⟨_,rfl⟩;rw[←eB];intro w2 h2 A;have heB:=m.er heA A;have I:=V3 m A C.out (by decide) j;have f:=Q.fuU m A j;have M:=m.apart hbr (by decide) J A;have u:=F.out.trans A;have hz2:w.heap.size≤w2.heap.size:=u.size;have hzs:w.heap.size<w2.heap.size:=(z6.1 M).1;clear C Q hbr F A m hbs heA;go_wp2_with (fail);refine A4y (slA hL (L.length+1)) h2 heB (fun k e=>⟨by omega,by omega⟩) _ ?_;obtain⟨rS,eS⟩:∃r,r=stB.bind (fun k=>pSl L (L.length+1) k 0):=⟨_,rfl⟩;rw[←eS];intro w3 bo bn bc E uv3 h3 hf3 hsu3 hnm3 _;have g:=V3 h2 hf3 I (by decide) j;have n:=f.fuU h2 hf3 j;have hb3:=h2.apart M (by decide) J hf3;have hfuB:=u.trans hf3;have hz3:=hf3.size;replace hnm3:=hd hnm3;clear I f M u hf3 h2 heB;go_wp2_with (fail);refine A0x (s:=K5) h3 (by decide) _ ?_;obtain⟨stE,eE⟩:∃s,s=(rS.map (·.2)).bind (xS L K5):=⟨_,rfl⟩;rw[←eE];intro w4 U o;have H:=V3 h3 o g (by decide) j;have t:=n.fuU h3 o j;have hb4:=h3.apart hb3 (by decide) J o;have hfuC:=hfuB.trans o;have hsu4:=hsu3.keep (o.sameU h3 (show bp<w2.heap.size by omega) _);have hz4:=o.size;clear g n hb3 hfuB o h3 hsu3;go_wp2_with (fail);obtain⟨hE1,hE2⟩:=B61 er eB eS eE;obtain⟨s,es⟩:∃s,s=lkU L stE:=⟨_,rfl⟩;refine B8M U _ ?_;rw[←es];intro w5 h5 hf5;have hown5:=hd (V3 U hf5 H (by decide) j);have P:=hd (t.fuU U hf5 j);have hb5:=U.apart hb4 (by decide) J hf5;have hfuD:=hd (hfuC.trans hf5);have hsu5:=hd (hsu4.keep (hf5.sameU U (show bp<w2.heap.size by omega) _));have hz5:=hf5.size;clear H t hb4 hfuC hf5 U hsu4;have N:(pP L).map (·.2)=if B6 s ⟨#[]⟩ then stE else none:=by
    rw[hE1];cases stE with
    |none=>simp
    |some k=>simp only[z0];rw[es];rfl
   replace hE2:=hd hE2;replace hq:=hd hq.out;replace eB:=hd eB;replace eS:=hd eS;replace eE:=hd eE;replace er:=hd er;replace es:=hd es;replace hb5:=hd hb5;clear hE1;have tn:=nmt s;cases hT:B6 s ⟨#[]⟩ with
   |false=>
    rw[hT] at tn N;replace N:=hd (show (pP L).map (·.2)=none from N);go_wp2_with (fail);refine h5.nfail _ ?_;intro w6 h6 hf6;have hown6:=hd (V3 h5 hf6 hown5.out (by decide) j);have hvars6:=hd (P.out.fuU h5 hf6 j);have d:=h5.apart hb5.out (by decide) J hf6;have hfu6:=hd (hfuD.out.trans hf6);have hsu6:=hd (hsu5.out.keep (hf6.sameU h5 (show bp<w2.heap.size by omega) _));have hz6:=hf6.size;have c3:=h6.c3;have a0:=A1 (i:=0) d rfl;have a1:=A1 (i:=1) d rfl;have a2:=A1 (i:=2) d rfl;have fz:=fun i=>B2 (i:=i) d;have lb6:=h6.lt;obtain⟨Z,uc,rfl⟩:=A7 h6.own;clear hown5 P hb5 hfuD hf6 h5 hsu5;replace h6:=hd h6;generalize hz:w.heap.size=z at*;replace hz:=hd hz;replace d:=hd d;replace hT:=hd hT;go_wp2;have G:=A4 (i:=2) (A4 (i:=1) (A4 (i:=0) d.out (.slice ao K cp)) (.slice Z E.length uc)) (.slice bo bn bc);have r0':=A1 (i:=0) G rfl;have r1':=A1 (i:=1) G rfl;have r2':=A1 (i:=2) G rfl;have hps7:=((h6.out.setNew d.out (by decide) hB0 0 (.slice ao K cp)).setNew (A4 d.out _) (by decide) hB0 1 (.slice Z E.length uc)).setNew (A4 (A4 d.out _) _) (by decide) hB0 2 (.slice bo bn bc);have hfu7:=((hfu6.out.setNew (z5 hz.out) 0 (.slice ao K cp)).setNew (z5 hz.out) 1 (.slice Z E.length uc)).setNew (z5 hz.out) 2 (.slice bo bn bc);refine bodyPost_ret (v:=.agg #[.slice ao K cp,.slice Z E.length uc,.slice bo bn bc]) (by simp[results,Tryz.results68,go_sem,r0',r1',r2']) rfl ?_;exact fin.out _ _ _ _ _ _ _ _ _ _ E (by rw[N.out];exact hps7) hfu7 (fun vs body k e=>by have:=N.out;rw[e] at this;cases this)
   |true=>
    rw[hT] at tn N;replace N:=hd (show (pP L).map (·.2)=stE from N);have d:=hb5.out;have c3:=h5.c3;have a0:=A1 (i:=0) d rfl;have a1:=A1 (i:=1) d rfl;have a2:=A1 (i:=2) d rfl;have fz:=fun i=>B2 (i:=i) d;have lb6:=h5.lt;obtain⟨Z,uc,rfl⟩:=A7 h5.own;clear hb5;replace h5:=hd h5;generalize hz:w.heap.size=z at*;replace hz:=hd hz;replace d:=hd d;replace hT:=hd hT;go_wp2;have G:=A4 (i:=2) (A4 (i:=1) (A4 (i:=0) d.out (.slice ao K cp)) (.slice Z E.length uc)) (.slice bo bn bc);have r0':=A1 (i:=0) G rfl;have r1':=A1 (i:=1) G rfl;have r2':=A1 (i:=2) G rfl;have hps7:=((h5.out.setNew d.out (by decide) hB0 0 (.slice ao K cp)).setNew (A4 d.out _) (by decide) hB0 1 (.slice Z E.length uc)).setNew (A4 (A4 d.out _) _) (by decide) hB0 2 (.slice bo bn bc);have hfu7:=((hfuD.out.setNew (z5 hz.out) 0 (.slice ao K cp)).setNew (z5 hz.out) 1 (.slice Z E.length uc)).setNew (z5 hz.out) 2 (.slice bo bn bc);have hk:∀(b:Nat) (cur:Array VL) (T:Nat),T≠87→w5.heap[b]? =some (.cells cur T (0,0))→(((w5.setCell ⟨z,0,none⟩ (.slice ao K cp)).setCell ⟨z,1,none⟩ (.slice Z E.length uc)).setCell ⟨z,2,none⟩ (.slice bo bn bc)).heap[b]? =w5.heap[b]? :=fun b cur T hT V=>by
     have G:b≠z:=fun e=>by rw[e,d.out] at V;injection V with S;injection S with _ e2;exact hT e2.symm
     exact ((z4 _ _ _ _ G).trans (z4 _ _ _ _ G)).trans (z4 _ _ _ _ G)
    refine bodyPost_ret (v:=.agg #[.slice ao K cp,.slice Z E.length uc,.slice bo bn bc]) (by simp[results,Tryz.results68,go_sem,r0',r1',r2']) rfl ?_;have hz':=hz.out;subst hz';refine fin.out _ _ _ _ _ _ _ _ _ _ E (by rw[N.out];exact hps7) hfu7 (fun vs body k e=>?_);obtain⟨k1,k2,y1,y2⟩:=hE2.out vs body k e;have y3:=hq.out vs k1 y1;subst y3;obtain⟨xs,y4,y5⟩:=hsu5.out;obtain⟨y6,y7⟩:=y5 body k2 y2;have y8:=hnm3.out body k2 y2;have hw7:=hps7.own;rw[y8] at hw7;refine⟨bs,xs,hnn.out,y6,⟨?_,P.out.keep (fun b cur _ V=>hk b cur _ (by decide) V),?_,?_,w2.heap.size,hz2,?_⟩⟩
    ·have:=A2T hown5.out (fun b cur V=>hk b cur _ (by decide) V);rw[←hnn.out];exact this
    ·rw[y8];exact hw7
    ·have:=A2T y4.1 (fun b cur V=>hk b cur _ (by decide) V);rw[←y6];exact A0J this hz2
    ·have hsz:(((w5.setCell ⟨w.heap.size,0,none⟩ (.slice ao K cp)).setCell ⟨w.heap.size,1,none⟩ (.slice Z E.length uc)).setCell ⟨w.heap.size,2,none⟩ (.slice bo bn bc)).heap.size=w5.heap.size:=(by simp);rw[hsz];exact (y7.keep (fun b cur T hT hlo _ _ V=>((z4 _ _ _ _ (show b≠w.heap.size by omega)).trans (z4 _ _ _ _ (show b≠w.heap.size by omega))).trans (z4 _ _ _ _ (show b≠w.heap.size by omega)))).wide (z7 _) (by omega)
  ·have hgk:=hgf rfl;have hwr:=F.size;have hlt:=m.lt;obtain⟨hk1,_⟩:=m.kle;have hlen2:K≤1000000:=(by omega);have heA:=hu.er he F;replace F:=hd F;replace C:=hd C;replace hr0:=hd hr0;replace hnn:=hd hnn;go_wp2_with (fail);refine B9Z hL m heA rl2 _ ?_;obtain⟨r1,S⟩:∃r,r=vdP L rl2 (k0+1):=⟨_,rfl⟩;have ex:(some (k0+1):Option Nat).bind (vdP L rl2)=r1:=S.symm;rw[ex];intro w2 b vd h2 A hb0 Y hvd;have I:=V3 m A C.out (by decide) j;have f:=Q.fuU m A j;have M:=m.apart hbr (by decide) J A;have u:=F.out.trans A;have hz2:=A.size;have hbs2:∀x∈bs,x<b:=fun x y=>by have:=hbs x y;omega
   have hbw2:b<w2.heap.size:=Y.lt;clear C Q hbr F A m hbs ex;have hwz:w.heap.size≤w2.heap.size:=u.size;have hr:=hd I;replace h2:=hd h2;replace M:=hd M;replace f:=hd f;replace u:=hd u;replace Y:=hd Y;replace hvd:=hd hvd;replace S:=hd S;clear I;go_wp2_with (first|(at_builtin;refine I5 _ rfl _ _ 84 rfl w.heap.size 144 _ 1 8 B5G B4Q rfl (by decide) _ K (A3h bs) rfl (by exact hr.out.alloc _) ⟨w2.heap.size,0,none⟩ 1 1 [.pointer (some ⟨b,0,none⟩)] rfl rfl (by exact S5 (A6r (by simp))) (A76 _) (by unfold maxLen;omega) (by omega) (by simp;omega) ?_;intro v3 w3 g D hl3;obtain⟨ao3,cp3,rfl⟩:=A7 g;replace g:=hd g;replace D:=hd D;replace hl3:=hd hl3));have hk2:∀b,b<w2.heap.size→(Value.slice ao K cp).ownBlock≠some b→w3.heap[b]? =w2.heap[b]? :=fun i hi J=>(D.out.block i (by simp;omega) (fun e=>J e.symm)).trans (Below.heap_alloc _ _ _ hi);have hz3:w2.heap.size+1≤w3.heap.size:=(by have:=D.out.size;simp at this;omega);have X:=h2.out.grow (w':=w3) hr.out (by decide) (Nat.le_trans hB0 (z7 _)) (by omega) hk2;have hfu2:=u.out.grow (w':=w3) D.out.os D.out.tape D.out.output (by omega) hk2 (fun b hb=>(hr.out.lt b hb).1);have hkT:∀(c:Nat) (cur:Array VL) (T:Nat),T≠144→w2.heap[c]? =some (.cells cur T (0,0))→w3.heap[c]? =w2.heap[c]? :=fun c cur T hT V=>hk2 c (z6.1 V).1 (fun e=>by obtain⟨cur2,hg⟩:=G6 hr.out e;rw[hg] at V;injection V with S;injection S with _ e2;exact hT e2.symm);have n:=f.out.keep (w':=w3) (fun c cur _ V=>hkT c cur _ (by decide) V);have hrow3:w3.rowIs b 147 6 (vdF vd 0):=(by obtain⟨c,V,hr2⟩:=Y.out;exact⟨c,(hkT b c _ (by decide) V).trans V,hr2⟩);have t:=n.snoc (v:=vd) rfl (show w.heap.size≤b by omega) hbs2 hrow3;have hb3:w3.heap[w.heap.size]? =some (.cells #[.slice none 0 0,.slice none 0 0,.slice none 0 0] 87):=(hkT _ _ _ (by decide) M.out).trans M.out;have H:w3.ownsRow w.heap.size 144 1 (.slice ao3 (K+1) cp3) (K+1) (A3h (bs++[b])):=(by have:=g.out;simpa[A3h] using this);have hbs3:∀x∈bs++[b],x<w3.heap.size:=fun x y=>by
    rcases List.mem_append.1 y with y|y
    ·have:=hbs2 x y;omega
    ·simp only[List.mem_singleton] at y;omega
   clear n hrow3 hkT hk2 D hl3 g hr Y f M u h2;refine B3k X _ ?_;intro w4 rl4 ok4 st4 U o hh4;have O:B3n B bp pv L us uv w r0 ao3 (K+1) cp3 rl4 ok4 w4 (gf-1):=by
    refine⟨vds++[vd],bs++[b],hfu2.trans o,V3 X o H (by decide) j,t.fuU X o j,by rw[List.length_append,←hnn.out];rfl,fun x y=>Nat.lt_of_lt_of_le (hbs3 x y) o.size,X.apart hb3 (by decide) J o,?_⟩;have a:=hr0.out;unfold A47 at a;rw[←S.out] at a;rcases hh4 with ⟨y1,k,y2,y3,y4⟩|⟨y1,y2,y3⟩
    ·cases y:r1 with
     |none=>rw[y] at y2;cases y2
     |some p=>
      rw[y] at y2;injection y2 with y2;replace y2:p.2=k:=y2;have hlt:=A4h (S.out.symm.trans y);have hk9:=U;rw[y4] at hk9;obtain⟨hk8,_⟩:=hk9.kle;obtain⟨g0,rfl⟩:∃g0,gf=g0+1:=⟨gf-1,by omega⟩;refine .inr ⟨y1,k,by rw[←y4];exact U,by omega,by omega,?_⟩;rw[y] at a;simp only[z0] at a;rw[y2,A06 y3] at a;rw[a,Nat.add_sub_cancel,hvd.out p.1 p.2 y];cases A47 L g0 rl4 k with
      |none=>rfl
      |some q=>simp
    ·refine .inl ⟨y1,?_,?_⟩
     ·rw[y2] at U;cases y:r1 with
      |none=>rw[y] at a U;rw[a];exact U
      |some p=>
       rw[y] at a U y3;have hk9:Pu B bp pv L ((0:Nat):Int) (some p.2) us uv w4:=U;obtain⟨hk8,_⟩:=hk9.kle;have hlt:=A4h (S.out.symm.trans y);obtain⟨g0,rfl⟩:∃g0,gf=g0+1:=⟨gf-1,by omega⟩;simp only[z0] at a;rw[A0z (y3 p.2 rfl)] at a;rw[a];exact U
     ·intro l k' e;cases y:r1 with
      |none=>rw[y] at a;rw[a] at e;cases e
      |some p=>
       rw[y] at a y3;rw[y2,y] at U;have hk9:Pu B bp pv L ((0:Nat):Int) (some p.2) us uv w4:=U;obtain⟨hk8,_⟩:=hk9.kle;have hlt:=A4h (S.out.symm.trans y);obtain⟨g0,rfl⟩:∃g0,gf=g0+1:=⟨gf-1,by omega⟩;simp only[z0] at a;rw[A0z (y3 p.2 rfl)] at a;rw[a] at e;injection e with e;injection e with e _;rw[←e,hvd.out p.1 p.2 y]
   have hg1:ok4=true→gf-1+1=gf:=fun e=>by
    obtain⟨_,_,_,_,_,_,_,_,y⟩:=O;rcases y with ⟨S,_⟩|⟨_,k9,e2,_,e3,_⟩
    ·rw[e] at S;cases S
    ·have:=e2.kle;omega
   replace hg1:=hd hg1;replace O:=hd O;clear U o hfu2 X H t hb3 hbs3 hh4;go_wp2;go_roundg gf;case measure=>omega
   case rel=>exact⟨rl4,ok4,ao3,K+1,cp3,gf-1,hg1.out,rfl,rfl,rfl,O.out⟩
end
section
def I8:LB:=[wLP,wRP,wLB,wRB,wCM,wSC,wCO,wAS,wMI,A1K,R4,A3u,V5,Q0,wIF,J5,X3,K5,A1A,A1B,wOF,A1D,wTO,wDO,P2,N8,R3,A1E,A4l,A1b,wIN,A5X,A8h,P6 0,P6 1,P6 2,P6 3,P6 4,P6 5,P6 6,P6 7,P6 8]
def A3Q (t:BA):Bool:=O7 t||Y8 t||I8.any (fun s=>B6 t s)
def Cn (L:LB)(k k':Nat):Prop:=k≤k'∧∀j,k≤j→j<k'→A3Q (A0 L j)=true
section
variable {L:LB}{k k':Nat}
theorem Cn.refl (k:Nat):Cn L k k:=⟨z7 _,fun j _ _=>by omega⟩
theorem Cn.trans {m:Nat}(h:Cn L k m)(g:Cn L m k'):Cn L k k':=⟨Nat.le_trans h.1 g.1,fun j a b=>by
 by_cases c:j<m
 ·exact h.2 j a c
 ·exact g.2 j (by omega) b⟩
theorem Cn.one (h:A3Q (A0 L k)=true):Cn L k (k+1):=⟨by omega,fun j b a=>by have:j=k:=(by omega);subst this;exact h⟩
theorem B9b {t s:BA}(h:B6 t s=true)(a:s∈I8):A3Q t=true:=by unfold A3Q;have:I8.any (fun s=>B6 t s)=true:=List.any_eq_true.2 ⟨s,a,h⟩;rw[this];simp
theorem A69 {t:BA}(h:O7 t=true):A3Q t=true:=by unfold A3Q;rw[h];rfl
theorem B2S {t:BA}(h:Y8 t=true):A3Q t=true:=by unfold A3Q;rw[h];simp
theorem Cn.s {s:BA}(h:B6 (A0 L k) s=true)(a:s∈I8):Cn L k (k+1):=Cn.one (B9b h a)
theorem Cn.xs {s:BA}(h:xS L s k=some k')(b:s∈I8):Cn L k k':=by obtain⟨a,rfl⟩:=A10.1 h;exact Cn.s a b
theorem Cn.xn (h:xN L k=some k'):Cn L k k':=by obtain⟨a,rfl⟩:=A4S.1 h;exact Cn.one (A69 a)
theorem Cn.lit {n:Int}(h:D2 L k=some (n,k')):Cn L k k':=by
 unfold D2 at h;by_cases c:((A0 L k).toList==wMI.toList)=true
 ·rw[if_pos c] at h;obtain⟨b,a⟩:=D3.1 h;injection a with a;injection a with _ a;subst a;exact (Cn.s c (by simp[I8])).trans (Cn.one (B2S b))
 ·rw[if_neg c] at h;obtain⟨b,a⟩:=D3.1 h;injection a with a;injection a with _ a;subst a;exact Cn.one (B2S b)
theorem B7g (o:Nat)(h:o<9):P6 o∈I8:=by have:o=0∨o=1∨o=2∨o=3∨o=4∨o=5∨o=6∨o=7∨o=8:=(by omega);rcases this with rfl|rfl|rfl|rfl|rfl|rfl|rfl|rfl|rfl<;>simp[I8]
theorem Cn.op {o:Nat}(h:opP L k=some o):Cn L k (k+1):=by unfold opP at h;have b:=List.find?_some h;have a:=List.mem_of_find?_eq_some h;exact Cn.s b (B7g o (List.mem_range.1 a))
theorem Cn.e:∀{f k k':Nat}{e:Ex},qE L f k=some (e,k')→Cn L k k'
 |0,_,_,_,h=>by cases h
 |f+1,k,k',e,h=>by
  rw[qE] at h;by_cases r:(B6 (A0 L k) wMI||Y8 (A0 L k))=true
  ·rw[if_pos r] at h;obtain⟨p,b,a⟩:=C8 h;injection a with a;injection a with _ a;subst a;exact Cn.lit b
  ·rw[if_neg r] at h;by_cases i:O7 (A0 L k)=true
   ·rw[if_pos i] at h;by_cases c:B6 (A0 L (k+1)) wLB=true
    ·rw[if_pos c] at h;obtain⟨p,b,h⟩:=C8 h;obtain⟨s,a,h⟩:=C8 h;injection h with h;injection h with _ h;subst h;exact (((Cn.one (A69 i)).trans (Cn.s c (by simp[I8]))).trans (Cn.e b)).trans (Cn.xs a (by simp[I8]))
    ·rw[if_neg c] at h;injection h with h;injection h with _ h;subst h;exact Cn.one (A69 i)
   ·rw[if_neg i] at h;by_cases c:B6 (A0 L k) V5=true
    ·rw[if_pos c] at h;injection h with h;injection h with _ h;subst h;exact Cn.s c (by simp[I8])
    ·rw[if_neg c] at h;by_cases j:B6 (A0 L k) Q0=true
     ·rw[if_pos j] at h;injection h with h;injection h with _ h;subst h;exact Cn.s j (by simp[I8])
     ·rw[if_neg j] at h;by_cases n:B6 (A0 L k) wLP=true
      ·rw[if_pos n] at h;obtain⟨p,b,h⟩:=C8 h;obtain⟨o,a,h⟩:=C8 h;obtain⟨q,d,h⟩:=C8 h;obtain⟨s,g,h⟩:=C8 h;injection h with h;injection h with _ h;subst h;exact ((((Cn.s n (by simp[I8])).trans (Cn.e b)).trans (Cn.op a)).trans (Cn.e d)).trans (Cn.xs g (by simp[I8]))
      ·rw[if_neg n] at h;by_cases l:B6 (A0 L k) A1K=true
       ·rw[if_pos l] at h;obtain⟨p,b,h⟩:=C8 h;injection h with h;injection h with _ h;subst h;exact (Cn.s l (by simp[I8])).trans (Cn.e b)
       ·rw[if_neg l] at h;by_cases m:B6 (A0 L k) R4=true
        ·rw[if_pos m] at h;obtain⟨p,b,h⟩:=C8 h;injection h with h;injection h with _ h;subst h;exact (Cn.s m (by simp[I8])).trans (Cn.e b)
        ·rw[if_neg m] at h;obtain⟨u,h⟩:=D3.1 h;obtain⟨B,g,h⟩:=C8 h;obtain⟨C,d,g⟩:=C8 g;obtain⟨s,a,d⟩:=C8 d;obtain⟨p,t,h⟩:=C8 h;obtain⟨A,v,h⟩:=C8 h;obtain⟨q,y,h⟩:=C8 h;obtain⟨z,x,h⟩:=C8 h;injection h with h;injection h with _ h;subst h;exact (((((((Cn.s u (by simp[I8])).trans (Cn.xs a (by simp[I8]))).trans (Cn.xn d)).trans (Cn.xs g (by simp[I8]))).trans (Cn.e t)).trans (Cn.xs v (by simp[I8]))).trans (Cn.e y)).trans (Cn.xs x (by simp[I8]))
theorem Cn.lits:∀{f k k':Nat}{ns:List Int},I0 L f k=some (ns,k')→Cn L k k'
 |0,_,_,_,h=>by cases h
 |f+1,k,k',ns,h=>by
  rw[I0] at h;by_cases c:B6 (A0 L k) wCM=true
  ·rw[if_pos c] at h;obtain⟨p,a,h⟩:=C8 h;obtain⟨q,b,h⟩:=C8 h;injection h with h;injection h with _ h;subst h;exact ((Cn.s c (by simp[I8])).trans (Cn.lit a)).trans (Cn.lits b)
  ·rw[if_neg c] at h;injection h with h;injection h with _ h;subst h;exact Cn.refl _
def CnR {A:Type}(L:LB)(q:Nat→Option (A×Nat)):Prop:=∀(k k':Nat) (a:A),q k=some (a,k')→Cn L k k'
variable {sq:Nat→Option (Sl×Nat)}
theorem B8W (e:CnR L sq):CnR L (qO L sq):=fun k k' a h=>by
 unfold qO qOE at h;obtain⟨p,b,h⟩:=C8 h;obtain⟨f,d,h⟩:=C8 h;injection h with h;injection h with _ h;subst h;by_cases c:B6 (A0 L k) A1A=true
 ·rw[if_pos c] at b;exact ((Cn.s c (by simp[I8])).trans (e _ _ _ b)).trans (Cn.xs d (by simp[I8]))
 ·rw[if_neg c] at b;injection b with b;subst b;exact Cn.xs d (by simp[I8])
theorem B2V (e:CnR L sq):∀f,CnR L (A0U L sq f)
 |0=>fun _ _ _ h=>by cases h
 |f+1=>fun k k' a h=>by
  rw[A0U] at h;by_cases c:B6 (A0 L k) A1D=true
  ·rw[if_pos c] at h;obtain⟨p,d,h⟩:=C8 h;obtain⟨q,m,h⟩:=C8 h;injection h with h;injection h with _ h;subst h;unfold A23 at d;obtain⟨n,l,d⟩:=C8 d;obtain⟨o,i,d⟩:=C8 d;obtain⟨r,g,d⟩:=C8 d;obtain⟨b,j,d⟩:=C8 d;injection d with d;subst d;exact (((((Cn.s c (by simp[I8])).trans (Cn.lit l)).trans (Cn.lits i)).trans (Cn.xs g (by simp[I8]))).trans (e _ _ _ j)).trans (B2V e f _ _ _ m)
  ·rw[if_neg c] at h;injection h with h;injection h with _ h;subst h;exact Cn.refl _
theorem B8p (j:CnR L sq):CnR L (qSt L sq):=fun k k' a h=>by
 unfold qSt at h;by_cases n:O7 (A0 L k)=true
 ·rw[if_pos n] at h;unfold A7O at h;obtain⟨x,d,h⟩:=C8 h;obtain⟨s,i,h⟩:=C8 h;obtain⟨e,g,h⟩:=C8 h;injection h with h;injection h with _ h;subst h;refine (Cn.trans ?_ (Cn.xs i (by simp[I8]))).trans (Cn.e g);unfold qI at d;by_cases c:B6 (A0 L (k+1)) wLB=true
  ·rw[if_pos c] at d;obtain⟨p,D,d⟩:=C8 d;obtain⟨B,C,d⟩:=C8 d;injection d with d;subst d;exact (((Cn.one (A69 n)).trans (Cn.s c (by simp[I8]))).trans (Cn.e D)).trans (Cn.xs C (by simp[I8]))
  ·rw[if_neg c] at d;injection d with d;subst d;exact Cn.one (A69 n)
 ·rw[if_neg n] at h;by_cases r:B6 (A0 L k) wIF=true
  ·rw[if_pos r] at h;unfold A5h at h;obtain⟨x,d,h⟩:=C8 h;obtain⟨s,i,h⟩:=C8 h;obtain⟨t,g,h⟩:=C8 h;obtain⟨o,m,h⟩:=C8 h;injection h with h;injection h with _ h;subst h;exact ((((Cn.s r (by simp[I8])).trans (Cn.e d)).trans (Cn.xs i (by simp[I8]))).trans (j _ _ _ g)).trans (B8W j _ _ _ m)
  ·rw[if_neg r] at h;by_cases q:B6 (A0 L k) J5=true
   ·rw[if_pos q] at h;unfold A5b at h;obtain⟨x,d,h⟩:=C8 h;obtain⟨s,i,h⟩:=C8 h;obtain⟨t,g,h⟩:=C8 h;obtain⟨o,m,h⟩:=C8 h;injection h with h;injection h with _ h;subst h;exact ((((Cn.s q (by simp[I8])).trans (Cn.e d)).trans (Cn.xs i (by simp[I8]))).trans (B2V j _ _ _ _ g)).trans (B8W j _ _ _ m)
   ·rw[if_neg q] at h;obtain⟨y,h⟩:=D3.1 h;unfold A43 at h;obtain⟨s,d,h⟩:=C8 h;obtain⟨B,i,h⟩:=C8 h;obtain⟨f,g,h⟩:=C8 h;obtain⟨G,m,h⟩:=C8 h;obtain⟨l,u,h⟩:=C8 h;obtain⟨E,v,h⟩:=C8 h;obtain⟨b,A,h⟩:=C8 h;obtain⟨F,z,h⟩:=C8 h;injection h with h;injection h with _ h;subst h;exact ((((((((Cn.s y (by simp[I8])).trans (Cn.xn d)).trans (Cn.xs i (by simp[I8]))).trans (Cn.lit g)).trans (Cn.xs m (by simp[I8]))).trans (Cn.lit u)).trans (Cn.xs v (by simp[I8]))).trans (j _ _ _ A)).trans (Cn.xs z (by simp[I8]))
end
theorem B26 (L:LB):∀f,CnR L (qSl L f)
 |0=>fun _ _ _ h=>by cases h
 |f+1=>fun k k' a h=>by
  rw[qSl] at h;by_cases c:A0b (A0 L k)=true
  ·rw[if_pos c] at h;obtain⟨p,d,h⟩:=C8 h;obtain⟨g,e,h⟩:=C8 h;obtain⟨q,b,h⟩:=C8 h;injection h with h;injection h with _ h;subst h;exact ((B8p (B26 L f) _ _ _ d).trans (Cn.xs e (by simp[I8]))).trans (B26 L f _ _ _ b)
  ·rw[if_neg c] at h;injection h with h;injection h with _ h;subst h;exact Cn.refl _
theorem Cn.kd {L:LB}{k:Nat}{c:Nat×Nat}(h:kdP L k=some c):Cn L k c.2:=by
 unfold kdP at h;by_cases b:B6 (A0 L k) A1E=true
 ·rw[if_pos b] at h;injection h with h;subst h;exact Cn.s b (by simp[I8])
 ·rw[if_neg b] at h;by_cases a:B6 (A0 L k) A4l=true
  ·rw[if_pos a] at h;injection h with h;subst h;exact Cn.s a (by simp[I8])
  ·rw[if_neg a] at h;obtain⟨f,d,e⟩:=z2.1 h;subst e;exact Cn.xs d (by simp[I8])
theorem Cn.ty {L:LB}{k:Nat}{t:(Nat×Bool×Int)×Nat}(h:tyP L k=some t):Cn L k t.2:=by
 unfold tyP at h;by_cases b:B6 (A0 L k) N8=true
 ·rw[if_pos b] at h;injection h with h;subst h;exact Cn.s b (by simp[I8])
 ·rw[if_neg b] at h;by_cases e:B6 (A0 L k) R3=true
  ·rw[if_pos e] at h;obtain⟨n,a,h⟩:=C8 h;obtain⟨i,g,h⟩:=C8 h;obtain⟨c,d,h⟩:=z2.1 h;subst h;unfold A2n at a;obtain⟨f,a⟩:=D3.1 a;injection a with a;subst a;exact (((Cn.s e (by simp[I8])).trans (Cn.one (B2S f))).trans (Cn.xs g (by simp[I8]))).trans (Cn.kd d)
  ·rw[if_neg e] at h;obtain⟨c,d,h⟩:=z2.1 h;subst h;exact Cn.kd d
theorem B5v (L:LB):∀f,CnR L (pDs L f)
 |0=>fun _ _ _ h=>by cases h
 |f+1=>fun k k' a h=>by
  cases b:rlP (A0 L k) with
  |none=>
   rw[A0z b] at h;injection h with h;injection h with _ h;subst h;exact Cn.refl _
  |some r=>
   rw[A06 b] at h;unfold A47 at h;obtain⟨p,c,h⟩:=C8 h;obtain⟨q,o,h⟩:=z2.1 h;injection h with _ h;subst h;have n:Cn L k (k+1):=by
    unfold rlP at b;by_cases i:B6 (A0 L k) wIN=true
    ·exact Cn.s i (by simp[I8])
    ·rw[if_neg i] at b;by_cases g:B6 (A0 L k) A5X=true
     ·exact Cn.s g (by simp[I8])
     ·rw[if_neg g] at b;obtain⟨j,_⟩:=D3.1 b;exact Cn.s j (by simp[I8])
   unfold vdP at c;obtain⟨t,e,c⟩:=C8 c;obtain⟨v,d,e⟩:=C8 e;obtain⟨u,l,d⟩:=C8 d;obtain⟨s,m,c⟩:=z2.1 c;subst c;exact ((((n.trans (Cn.xn l)).trans (Cn.xs d (by simp[I8]))).trans (Cn.ty e)).trans (Cn.xs m (by simp[I8]))).trans (B5v L f _ _ _ o)
def A3U (L:LB):Option (List Vd×Sl):=(pDs L (L.length+1) 0).bind (fun p=>(xS L P2 p.2).bind (fun b=>(qSl L (L.length+1) b).bind (fun q=>(xS L K5 q.2).bind (fun a=>if a=L.length∧H8 q.1≤10 then some (p.1,q.1) else none))))
theorem A9H {s:BA}(h:s.size≠0):B6 s ⟨#[]⟩=false:=by
 cases e:B6 s ⟨#[]⟩ with
 |false=>rfl
 |true=>exact absurd (by rw[A0u e];rfl) h
theorem B51 {L:LB}(d:∀s∈L,s.size≠0):(pP L).map (·.1)=A3U L:=by
 unfold pP A3U;cases pDs L (L.length+1) 0 with
 |none=>rfl
 |some p=>
  simp only[z0];cases xS L P2 p.2 with
  |none=>rfl
  |some k1=>
   simp only[z0];cases f:qSl L (L.length+1) k1 with
   |none=>
    have:pSl L (L.length+1) k1 0=none:=by
     cases e:pSl L (L.length+1) k1 0 with
     |none=>rfl
     |some x=>have:=((A4n L _ k1 0 x.1 x.2 (by omega)).1 e).1;rw[f] at this;cases this
    rw[this];rfl
   |some q=>
    by_cases hd:H8 q.1≤10
    ·rw[(A4n L _ k1 0 q.1 q.2 (by omega)).2 ⟨f,by omega⟩];simp only[z0];cases l:xS L K5 q.2 with
     |none=>rfl
     |some k2=>
      simp only[z0];obtain⟨a,i⟩:=C9 l;have j:q.2<L.length:=by
       by_cases c:q.2<L.length
       ·exact c
       ·rw[G7 c] at a;exact absurd (A0u a) (by intro e;cases e)
      by_cases g:k2=L.length
      ·rw[if_pos (show B6 (A0 L k2) ⟨#[]⟩=true by rw[G7 (by omega)];exact T9 rfl),if_pos ⟨g,hd⟩];rfl
      ·have b:k2<L.length:=(by omega);obtain⟨s,h⟩:∃s,L[k2]? =some s:=⟨_,List.getElem?_eq_getElem b⟩;have k:¬B6 (A0 L k2) ⟨#[]⟩=true:=(by rw[A18 L k2 s h,A9H (d s (List.mem_of_getElem? h))];decide);rw[if_neg k,if_neg (fun e=>g e.1)];rfl
    ·have:pSl L (L.length+1) k1 0=none:=by
      cases e:pSl L (L.length+1) k1 0 with
      |none=>rfl
      |some x=>
       have a:=(A4n L _ k1 0 x.1 x.2 (by omega)).1 e;rw[f] at a;injection a.1 with i;replace hd:¬H8 x.1≤10:=(by rw[i] at hd;exact hd);exact absurd a.2 (by omega)
     rw[this];simp only[z0];cases xS L K5 q.2 with
     |none=>rfl
     |some k2=>simp only[z0];rw[if_neg (fun e=>hd e.2)];rfl
theorem B2j {L:LB}{r:List Vd×Sl}(h:A3U L=some r):∀t∈L,A3Q t=true:=by unfold A3U at h;obtain⟨p,f,h⟩:=C8 h;obtain⟨l,g,h⟩:=C8 h;obtain⟨q,b,h⟩:=C8 h;obtain⟨m,e,h⟩:=C8 h;obtain⟨⟨k,_⟩,_⟩:=D3.1 h;have i:=(((B5v L _ _ _ _ f).trans (Cn.xs g (by simp[I8]))).trans (B26 L _ _ _ _ b)).trans (Cn.xs e (by simp[I8]));intro t c;obtain⟨j,a⟩:=List.mem_iff_getElem?.1 c;have d:=(List.getElem?_eq_some_iff.1 a).1;rw[←A18 L j t a];exact i.2 j (Nat.zero_le _) (by omega)
end
end Go.Proofs.YtidhiaaicmfabaaGreatDoor
