/- Texts (its parts, joined). -/
import Derived.Test.YtidhiaaicmfabaaGreatDoorTqBP
open List renaming getElem?_eq_getElem→z0,getD_eq_getElem?_getD→z7,take_of_length_le→y5,getElem_mem→y7,all_append→x0,take_succ_cons→x2,mem_cons→x3
open Array renaming getElem?_eq_some_iff→z9
open Nat renaming le_refl→y0,zero_le→y8,le_trans→x5
open Bool renaming and_eq_true→y6
open Option renaming getD_some→y9,map_some→x1,toList_some→x4
namespace Go.Proofs.YtidhiaaicmfabaaGreatDoor
open Go.RowKit Go.Proofs Go.Deep
set_option maxRecDepth 100000
set_option maxHeartbeats 4000000
open IntWalk renaming i64_in→z8
theorem A4t {w:WD}{lo hi T f n:Nat}{v:VL}{xs:List VL}(h:C2 w lo hi T f v n xs)(k:n≠0):∃g cap,v=.slice (some ⟨g,0,none⟩) n cap∧n≤cap∧lo≤g∧g<hi∧g<w.heap.size∧(∃cur,w.heap[g]? =some (.cells cur T (0,0)))∧∀(i:Nat) (x:VL),xs[i]? =some x→w.cell? ⟨g,i,none⟩=some x:=by
 rcases h.1.2 with ⟨_,l⟩|⟨g,cap,cur,rfl,j,c,d,_,e,a⟩
 ·exact absurd l k
 ·refine⟨g,cap,rfl,d,j,h.2 g rfl,(z9.1 c).1,⟨cur,c⟩,fun i x b=>?_⟩;rw[cell_of_row w g i cur T (0,0) c];rw[←a,List.getElem?_take] at b;split at b
  ·simpa using b
  ·cases b
theorem B2y {rs:List Bool}{i:Nat}(hi:i<rs.length)(h:rs.getD i false=false):rs.all id=false:=by
 rw[z7,z0 hi,y9] at h;cases e:rs.all id with
 |false=>rfl
 |true=>
  have:=List.all_eq_true.1 e rs[i] (y7 hi);rw[h] at this;cases this
theorem A7U {rs:List Bool}{i:Nat}(hi:i<rs.length)(a:(rs.take i).all id=true)(h:rs.getD i false=true):(rs.take (i+1)).all id=true:=by rw[z7,z0 hi,y9] at h;rw[List.take_add_one,z0 hi,x4,x0,a,Bool.true_and];simp[h]
theorem A9b {rs:List Bool}{i:Nat}(hi:¬i<rs.length)(a:(rs.take i).all id=true):rs.all id=true:=by rwa [y5 (by omega)] at a
def B6W (w:WD)(lv:VL)(n:Nat)(P:Nat→Nat→Prop):Prop:=∃a c,lv=.slice a n c∧n≤c∧n≤1000∧(0<n→∃g,a=some ⟨g,0,none⟩∧g<w.heap.size∧∀i,i<n→∃b,w.cell? ⟨g,i,none⟩=some (.pointer (some ⟨b,0,none⟩))∧P i b)
def BrL (w:WD)(lv:VL)(n:Nat)(P:Nat→VL→VL→Prop):Prop:=∃a b,lv=.slice a n b∧n≤b∧n≤1000∧(0<n→∃g,a=some ⟨g,0,none⟩∧g<w.heap.size∧∀i,i<n→∃u v,w.cell? ⟨g,i*2,none⟩=some u∧w.cell? ⟨g,i*2+1,none⟩=some v∧P i u v)
def KnC (pv:VL)(w:WD)(x:Option Nat)(k:Bool):Prop:=∀R:RP,R (.returned (.bool k)) w→Calls Tryz.prog 89 #[pv,.pointer (x.map (fun b=>⟨b,0,none⟩))] w R
def NmC (pv:VL)(w:WD)(v:VL)(k:Bool):Prop:=∀R:RP,R (.returned (.bool k)) w→Calls Tryz.prog 50 #[pv,v] w R
def B4j (vs:List Vd)(pv:VL)(w:WD)(m:Nat)(r:Bool):Prop:=∃(j:Nat) (f:Option Nat) (nm:BA) (a b:Option Nat) (k ns l:VL) (g e h c:Bool) (d:List Bool),
 w.rowIs m 186 8 (dsF j f nm a b k ns l)∧KnC pv w f g∧KnC pv w a e∧NmC pv w k h∧NmC pv w ns c∧BrL w l d.length (fun i _ v=>NmC pv w v (d.getD i false))∧
 r=(g&&(e&&(h&&(c&&((!(j==102)||(C1 vs nm).isSome)&&d.all id)))))
theorem A4o {vs:List Vd}{pb m:Nat}{av lv:VL}{w:WD}(hD:Dg vs pb m av w)(rs:List Bool)(hl:B6W w lv rs.length (fun i C=>B4j vs (.pointer (some ⟨pb,0,none⟩)) w C (rs.getD i false))):NmC (.pointer (some ⟨pb,0,none⟩)) w lv (rs.all id):=by
 intro R d;obtain⟨ao,cp,rfl,hcp,hn,hc⟩:=hl;obtain⟨X,D⟩:∃X,rs.all id=X:=⟨_,rfl⟩;rw[D] at d;replace d:=hd d;replace hc:=hd hc;replace hD:=hd hD;replace D:=hd D;go_enter Tryz.func50,Tryz.ntmps50;go_wp2;go_loopw [5] (fun iv wr=>∃i:Nat,i≤rs.length∧iv=.int .i64 (i:Int)∧w=wr∧(rs.take i).all id=true) (fun iv _=>rs.length-(intOf iv).toNat);case atStart=>exact⟨0,y8 _,rfl,rfl,rfl⟩
 case round=>
  obtain⟨i,hi,rfl,e,r⟩:=hrel;subst e;by_cases E:i<rs.length
  ·have td:decide ((i:Int)<(rs.length:Int))=true:=(by simp;omega);obtain⟨g,rfl,hg,Q⟩:=hc.out (by omega);obtain⟨C,c0,T,pl,nm,a,b,ys,ns,br,N,P,U,J,s,G,B,y,A,x,Y,S⟩:=Q i E;have j0:(0:Int)≤(i:Int)∧(i:Int)<(rs.length:Int):=(by omega);have s0:w.cell? ⟨C,0,none⟩=some (.int .u8 (T:Int)):=G.cell (i:=0) (by omega);have s1:w.cell? ⟨C,1,none⟩=some (.pointer (pl.map (fun b=>⟨b,0,none⟩))):=G.cell (i:=1) (by omega);have s2:w.cell? ⟨C,2,none⟩=some (.string nm):=G.cell (i:=2) (by omega);have s3:w.cell? ⟨C,3,none⟩=some (.pointer (a.map (fun b=>⟨b,0,none⟩))):=G.cell (i:=3) (by omega);have s5:w.cell? ⟨C,5,none⟩=some ys:=G.cell (i:=5) (by omega);have s6:w.cell? ⟨C,6,none⟩=some ns:=G.cell (i:=6) (by omega);have s7:w.cell? ⟨C,7,none⟩=some br:=G.cell (i:=7) (by omega);have lb:=G.lt;have f102:((T:Int)==102)=(T==102):=A1h T 102;unfold KnC at B y;unfold NmC at A x;generalize Option.map (fun b=>(⟨b,0,none⟩:Addr)) pl=pl' at*;generalize Option.map (fun b=>(⟨b,0,none⟩:Addr)) a=a' at*;generalize (T==102)=q at*;have p:rs.getD i false=false→X=false:=fun h=>by rw[←D.out];exact B2y E h
   have t:rs.getD i false=true→(rs.take (i+1)).all id=true:=A7U E r;rw[S] at p t;replace p:=hd p;replace t:=hd t;replace B:=hd B;replace y:=hd y;replace A:=hd A;replace x:=hd x;obtain⟨ao2,cp2,rfl,hcp2,hn3,I⟩:=Y;replace I:=hd I;clear Q S G r;rcases (show N=false∨(N=true∧P=false)∨(N=true∧P=true∧U=false)∨(N=true∧P=true∧U=true∧J=false)∨(N=true∧P=true∧U=true∧J=true) by cases N<;>cases P<;>cases U<;>cases J<;>simp) with rfl|⟨rfl,rfl⟩|⟨rfl,rfl,rfl⟩|⟨rfl,rfl,rfl,rfl⟩|⟨rfl,rfl,rfl,rfl⟩;rotate_right
   ·have c:((!q||(C1 vs nm).isSome)&&s.all id)=false→X=false:=fun h=>p.out (by simpa using h);have l:((!q||(C1 vs nm).isSome)&&s.all id)=true→(rs.take (i+1)).all id=true:=fun h=>t.out (by simpa using h);replace c:=hd c;replace l:=hd l;clear p t;go_wp2_with (fail);refine B.out _ ?_;go_wp2_with (fail);refine y.out _ ?_;go_wp2_with (fail);refine A.out _ ?_;go_wp2_with (fail);refine x.out _ ?_;have K:q=false∨q=true:=(by cases q<;>simp);rcases K with rfl|rfl;case' inl=>
     have j:s.all id=false→X=false:=fun h=>c.out (by simpa using h);have f:s.all id=true→(rs.take (i+1)).all id=true:=fun h=>l.out (by simpa using h);replace j:=hd j;replace f:=hd f;clear c l;go_wp2
    case' inr=>
     go_wp2_with (fail);refine A3z hD.out nm _ ?_ ?_
     ·intro L;have n:X=false:=c.out (by simp[L]);rw[n] at d;clear c l D n;replace L:=hd L;go_wp2;exact A6 d.out rfl
     intro g' i' v' cp' e1 e2 e3 _ _ _;have j:s.all id=false→X=false:=fun h=>c.out (by simp[h]);have f:s.all id=true→(rs.take (i+1)).all id=true:=fun h=>l.out (by simp[e3,h]);replace j:=hd j;replace f:=hd f;replace e3:=hd e3;replace e2:=hd e2;clear c l e1;go_wp2
    all_goals
     go_loopw [11] (fun V w2=>∃k:Nat,k≤s.length∧V=.int .i64 (k:Int)∧w=w2∧(s.take k).all id=true) (fun V _=>s.length-(intOf V).toNat)
     case atStart=>exact⟨0,y8 _,rfl,rfl,rfl⟩
     case round=>
      obtain⟨k,hk,rfl,e,o⟩:=hrel
      subst e
      by_cases F:k<s.length
      ·have Z:decide ((k:Int)<(s.length:Int))=true:=(by simp;omega);obtain⟨g2,rfl,hg2,H⟩:=I.out (by omega);obtain⟨u,v,_,u2,M⟩:=H k F;have j2:(0:Int)≤(k:Int)∧(k:Int)<(s.length:Int):=(by omega);clear H;unfold NmC at M;obtain⟨z,K⟩:∃z,s.getD k false=z:=⟨_,rfl⟩;rw[K] at M;replace M:=hd M;cases z with
       |false=>
        have n:X=false:=j.out (B2y F K);rw[n] at d;clear j f D n K o;go_wp2_with (fail);refine M.out _ ?_;go_wp2;exact A6 d.out rfl
       |true=>
        have O:=hd (A7U F o K);clear K o;go_wp2_with (fail);refine M.out _ ?_;go_wp2;exact⟨⟨k+1,by omega,by go_num,by first|rfl|trivial,O.out⟩,by simp[intOf];omega⟩
      ·have Z:decide ((k:Int)<(s.length:Int))=false:=(by simp;omega);have hf:=hd (f.out (A9b F o));clear o;go_wp2;exact⟨⟨i+1,by omega,by go_num,by first|rfl|trivial,hf.out⟩,by simp[intOf];omega⟩
   all_goals
    have n:X=false:=p.out (by simp)
    rw[n] at d
    clear p t D n
    go_wp2_with (fail)
    refine B.out _ ?_
    go_wp2_with (fail)
    refine y.out _ ?_
    go_wp2_with (fail)
    refine A.out _ ?_
    go_wp2_with (fail)
    refine x.out _ ?_
    go_wp2
    exact A6 d.out rfl
  ·have td:decide ((i:Int)<(rs.length:Int))=false:=(by simp;omega);rw[←D.out,A9b E r] at d;clear r D;go_wp2;exact A6 d.out rfl
section
mutual
def I2:Q3→Int
 |.set _ e=>1+cE e
 |.setx _ i e=>1+cE i+cE e
 |.ife c t o=>1+cE c+O6 t+O6 o
 |.cas e ws o=>1+cE e+U4 ws+O6 o
 |.loop _ _ _ b=>2+O6 b
def O6:Sl→Int
 |.nil=>0
 |.cons h t=>I2 h+O6 t
def U4:Wl→Int
 |.nil=>0
 |.cons ns b t=>1+(ns.length:Int)+O6 b+U4 t
end
mutual
theorem U8:∀s:Q3,1≤I2 s
 |.set _ e=>by have:=B5 e;simp only[I2];omega
 |.setx _ i e=>by have:=B5 e;have:=B5 i;simp only[I2];omega
 |.ife c t o=>by have:=B5 c;have:=B0 t;have:=B0 o;simp only[I2];omega
 |.cas e ws o=>by have:=B5 e;have:=J9 ws;have:=B0 o;simp only[I2];omega
 |.loop _ _ _ b=>by have:=B0 b;simp only[I2];omega
theorem B0:∀l:Sl,(l.len:Int)≤O6 l
 |.nil=>by simp[O6,Sl.len]
 |.cons h t=>by have:=U8 h;have:=B0 t;simp only[O6,Sl.len];omega
theorem J9:∀l:Wl,(l.len:Int)≤U4 l
 |.nil=>by simp[U4,Wl.len]
 |.cons ns b t=>by have:=B0 b;have:=J9 t;simp only[U4,Wl.len];omega
end
def knB (vs:List Vd)(n:BA):Bool:=(C1 vs n).isSome
def knS (vs:List Vd)(s:Q3):Bool:=(G0 s).all (knB vs)
def knL (vs:List Vd)(l:Sl):Bool:=(E0 l).all (knB vs)
def knW (vs:List Vd)(l:Wl):Bool:=(O3 l).all (knB vs)
def rsL (vs:List Vd):Sl→List Bool
 |.nil=>[]
 |.cons h t=>knS vs h::rsL vs t
def rsW (vs:List Vd):Wl→List Bool
 |.nil=>[]
 |.cons _ b t=>knL vs b::rsW vs t
theorem A92 (vs:List Vd):∀l,(rsL vs l).length=l.len
 |.nil=>rfl
 |.cons _ t=>by simp[rsL,Sl.len,A92 vs t]
theorem A87 (vs:List Vd):∀l,(rsW vs l).length=l.len
 |.nil=>rfl
 |.cons _ _ t=>by simp[rsW,Wl.len,A87 vs t]
theorem B0g (vs:List Vd):∀l,(rsL vs l).all id=knL vs l
 |.nil=>rfl
 |.cons h t=>by
  have:=B0g vs t;simp only[knL] at this ⊢;simp only[rsL,List.all_cons,this,knS,E0,x0,id]
theorem A9E (vs:List Vd):∀l,(rsW vs l).all id=knW vs l
 |.nil=>rfl
 |.cons _ b t=>by
  have:=A9E vs t;simp only[knW] at this ⊢;simp only[rsW,List.all_cons,this,knL,O3,x0,id]
section
variable {TT:Ex→Int→Prop}{vs:List Vd}{pb m:Nat}{av:VL}{w:WD}
theorem A3p (a:Dg vs pb m av w):NmC (.pointer (some ⟨pb,0,none⟩)) w (.slice none 0 0) true:=A4o a [] ⟨none,0,rfl,y0 _,y8 _,fun h=>absurd h (Nat.lt_irrefl _)⟩
theorem A78 {pv:VL}:KnC pv w none true:=fun R a=>R0 w pv R a
theorem A4x (a:Dg vs pb m av w){e:Ex}{lo hi b:Nat}(h:DE TT e lo hi w b):KnC (.pointer (some ⟨pb,0,none⟩)) w (some b) ((C7 e).all (knB vs)):=fun R c=>A1Q a e h R c
theorem A6d {P:Nat→VL→VL→Prop}:BrL w (.slice none 0 0) 0 P:=⟨none,0,rfl,y0 _,y8 _,fun h=>absurd h (Nat.lt_irrefl _)⟩
theorem B17 {lo hi n:Nat}{lv:VL}{xs:List VL}{P:Nat→Nat→Prop}(b:C2 w lo hi 181 1 lv n xs)(c:n≤1000)(j:∀i,i<n→∃a,xs[i]? =some (.pointer (some ⟨a,0,none⟩))∧P i a):B6W w lv n P:=by
 by_cases o:n=0
 ·obtain⟨l,e,rfl⟩:=A7 b.1;exact⟨l,e,rfl,by omega,c,fun h=>by omega⟩
 ·obtain⟨g,cap,rfl,m,_,_,k,_,d⟩:=A4t b o;refine⟨_,cap,rfl,m,c,fun _=>⟨g,rfl,k,fun i hi=>?_⟩⟩;obtain⟨a,p,f⟩:=j i hi;exact⟨a,d i _ p,f⟩
theorem B5e {lo hi n:Nat}{lv:VL}{xs:List VL}{P:Nat→VL→VL→Prop}(b:C2 w lo hi 189 2 lv n xs)(c:n≤1000)(j:∀i,i<n→∃u v,xs[i*2]? =some u∧xs[i*2+1]? =some v∧P i u v):BrL w lv n P:=by
 by_cases o:n=0
 ·obtain⟨l,e,rfl⟩:=A7 b.1;exact⟨l,e,rfl,by omega,c,fun h=>by omega⟩
 ·obtain⟨g,cap,rfl,m,_,_,k,_,a⟩:=A4t b o;refine⟨_,cap,rfl,m,c,fun _=>⟨g,rfl,k,fun i hi=>?_⟩⟩;obtain⟨u,v,p,f,d⟩:=j i hi;exact⟨u,v,a _ _ p,a _ _ f,d⟩
theorem A5s (b:Dg vs pb m av w){lo hi:Nat}{lv:VL}{xs:List VL}{l:Sl}(c:C2 w lo hi 181 1 lv l.len xs)(e:O6 l≤1000)(d:∀i,i<l.len→∃a,xs[i]? =some (.pointer (some ⟨a,0,none⟩))∧B4j vs (.pointer (some ⟨pb,0,none⟩)) w a ((rsL vs l).getD i false)):NmC (.pointer (some ⟨pb,0,none⟩)) w lv (knL vs l):=by rw[←B0g];have:=B0 l;refine A4o b (rsL vs l) ?_;rw[A92];exact B17 c (by omega) d
mutual
theorem nmS (hD:Dg vs pb m av w):∀(s:Q3){lo hi b:Nat},I2 s≤1000→DZ TT s lo hi w b→B4j vs (.pointer (some ⟨pb,0,none⟩)) w b (knS vs s)
 |.set s e,lo,hi,b,hn,⟨_,_,bp,be,hr,h1,h2⟩=>⟨_,_,_,_,_,_,_,_,_,_,true,true,[],hr,A4x hD h1,A4x hD h2,A3p hD,A3p hD,A6d,by simp[knS,G0,C7]⟩
 |.setx s i e,lo,hi,b,hn,⟨_,_,bp,be,hr,h1,h2⟩=>⟨_,_,_,_,_,_,_,_,_,_,true,true,[],hr,A4x hD h1,A4x hD h2,A3p hD,A3p hD,A6d,by simp[knS,G0,C7,Bool.and_assoc]⟩
 |.ife c t o,lo,hi,b,hn,⟨_,_,bc,ys,ns,m1,m2,hr,_,_,_,h1,⟨xs,r1,d1⟩,⟨xs2,r2,d2⟩⟩=>by
  have z1:=B5 c;have z2:=B0 t;have z3:=B0 o;simp only[I2] at hn;exact⟨_,_,_,_,_,_,_,_,true,_,_,_,[],hr,A78,A4x hD h1,A5s hD r1 (by omega) (nmX hD t (by omega) d1),A5s hD r2 (by omega) (nmX hD o (by omega) d2),A6d,by simp[knS,knL,G0]⟩
 |.cas e ws o,lo,hi,b,hn,⟨_,_,be,ns,br,m1,m2,hr,_,_,_,h1,⟨xs,r1,d1⟩,⟨xs2,r2,d2⟩⟩=>by
  have z1:=B5 e;have z2:=J9 ws;have z3:=B0 o;simp only[I2] at hn;exact⟨_,_,_,_,_,_,_,_,true,_,true,_,rsW vs ws,hr,A78,A4x hD h1,A3p hD,A5s hD r2 (by omega) (nmX hD o (by omega) d2),by rw[A87];exact B5e r1 (by omega) (nmW hD ws (by omega) d1),by rw[A9E];simp[knS,knL,knW,G0,Bool.and_comm]⟩
 |.loop s f l bd,lo,hi,b,hn,⟨_,_,ba,bb,ys,m1,m2,hr,_,_,_,h1,h2,⟨xs,r1,d1⟩⟩=>by
  have z2:=B0 bd;simp only[I2] at hn;exact⟨_,_,_,_,_,_,_,_,true,_,_,true,[],hr,A78,A4x hD h1,A5s hD r1 (by omega) (nmX hD bd (by omega) d1),A3p hD,A6d,by simp[knS,knL,knB,G0,C7,Bool.and_comm]⟩
theorem nmX (hD:Dg vs pb m av w):∀(l:Sl){g:Option Nat}{lo hi:Nat}{xs:List VL},O6 l≤1000→DL TT g l lo hi w xs→∀i,i<l.len→∃b0,xs[i]? =some (.pointer (some ⟨b0,0,none⟩))∧B4j vs (.pointer (some ⟨pb,0,none⟩)) w b0 ((rsL vs l).getD i false)
 |.nil,g,lo,hi,xs,hn,_,i,hi'=>by simp[Sl.len] at hi'
 |.cons h t,g,lo,hi,xs,hn,⟨b0,ys,a,b,m',e,_,_,_,_,_,d1,d2⟩,i,hi'=>by
  have z1:=U8 h;have z2:=B0 t;simp only[O6] at hn;simp only[Sl.len] at hi';cases i with
  |zero=>exact⟨b0,by rw[e];rfl,nmS hD h (by omega) d1⟩
  |succ i=>
   obtain⟨b1,y1,y2⟩:=nmX hD t (by omega) d2 i (by omega);exact⟨b1,by rw[e];simpa using y1,y2⟩
theorem nmW (hD:Dg vs pb m av w):∀(l:Wl){g:Option Nat}{lo hi:Nat}{xs:List VL},U4 l≤1000→DW TT g l lo hi w xs→∀i,i<l.len→∃u v,xs[i*2]? =some u∧xs[i*2+1]? =some v∧NmC (.pointer (some ⟨pb,0,none⟩)) w v ((rsW vs l).getD i false)
 |.nil,g,lo,hi,xs,hn,_,i,hi'=>by simp[Wl.len] at hi'
 |.cons ns bd t,g,lo,hi,xs,hn,⟨vn,vb,ys,a,m1,c,m',e,_,_,_,_,_,_,_,⟨zs,r1,d1⟩,d2⟩,i,hi'=>by
  have z1:=B0 bd;have z2:=J9 t;simp only[U4] at hn;simp only[Wl.len] at hi';cases i with
  |zero=>exact⟨vn,vb,by rw[e];rfl,by rw[e];rfl,A5s hD r1 (by omega) (nmX hD bd (by omega) d1)⟩
  |succ i=>
   obtain⟨u,v,y1,y2,y3⟩:=nmW hD t (by omega) d2 i (by omega);refine⟨u,v,?_,?_,y3⟩
   ·rw[e,show (i+1)*2=i*2+1+1 by omega];simpa using y1
   ·rw[e,show (i+1)*2+1=i*2+1+1+1 by omega];simpa using y2
end
theorem B57 (b:Dg vs pb m av w)(l:Sl){lo hi:Nat}{lv:VL}{xs:List VL}(a:O6 l≤1000)(c:C2 w lo hi 181 1 lv l.len xs)(h:DL TT lv.ownBlock l lo hi w xs):NmC (.pointer (some ⟨pb,0,none⟩)) w lv (knL vs l):=A5s b c a (nmX b l a h)
end
end
def HQ (a b:WD):Prop:=a.heap=b.heap∧a.os=b.os∧a.tape=b.tape∧a.output=b.output
def PrC (w:WD)(x:Option Nat)(n:Int):Prop:=∀a:WD,HQ a w→∀R:RP,R (.returned (.int .i64 n)) a→Calls Tryz.prog 99 #[.pointer (x.map (fun b=>⟨b,0,none⟩))] a R
def CoC (w:WD)(v:VL)(n:Int):Prop:=∀a:WD,HQ a w→∀R:RP,(∀w',HQ w' w→R (.returned (.int .i64 n)) w')→Calls Tryz.prog 54 #[v] a R
def nlS:VL:=.slice none 0 0
def CPs (w:WD)(f:Nat)(n:Int):Prop:=∃bp e d n' c nm op x y t b a,w.rowIs f 186 8 (dsF 61 (some bp) ⟨#[]⟩ (some e) none nlS nlS nlS)∧w.rowIs bp 194 8 (deF d n' c nm op x y t)∧PrC w x b∧PrC w (some e) a∧(0≤b∧b≤1000000)∧(0≤a∧a≤1000000)∧n=1+b+a
def CPi (w:WD)(e:Nat)(n:Int):Prop:=∃bc d ns b c a,w.rowIs e 186 8 (dsF 63 none ⟨#[]⟩ (some bc) none d ns nlS)∧PrC w (some bc) b∧CoC w d c∧CoC w ns a∧(0≤b∧b≤1000000)∧(0≤c∧c≤1099511627776)∧(0≤a∧a≤1099511627776)∧n=1+b+max c a
def mxL:List (Nat×Int)→Int→Int
 |[],m=>m
 |p::t,m=>mxL t (max m p.2)
def lnL:List (Nat×Int)→Int
 |[]=>0
 |p::t=>p.1+lnL t
def CPc (w:WD)(g:Nat)(n:Int):Prop:=∃e ns d c b,∃a:List (Nat×Int),w.rowIs g 186 8 (dsF 99 none ⟨#[]⟩ (some e) none nlS ns d)∧PrC w (some e) c∧CoC w ns b∧BrL w d a.length (fun i u v=>(∃f h,u=.slice f (a.getD i (0,0)).1 h)∧CoC w v (a.getD i (0,0)).2)∧
 (0≤c∧c≤1000000)∧(0≤b∧b≤1099511627776)∧(∀p∈a,p.1≤1000∧0≤p.2∧p.2≤1099511627776)∧n=1+c+lnL a+mxL a b
def CPf (w:WD)(g:Nat)(n:Int):Prop:=∃nm ba e d b a f i h j c,w.rowIs g 186 8 (dsF 102 none nm (some ba) (some e) d nlS nlS)∧w.rowIs ba 194 8 (deF 108 b f ⟨#[]⟩ ⟨#[]⟩ none none h)∧w.rowIs e 194 8 (deF 108 a i ⟨#[]⟩ ⟨#[]⟩ none none j)∧CoC w d c∧
 (-4294967296≤b∧b≤4294967296)∧(-4294967296≤a∧a≤4294967296)∧(0≤c∧c≤1099511627776)∧n=if 0<max (a-b+1) 0∧1099511627776/(1+c)<max (a-b+1) 0 then 1099511627776 else 1+max (a-b+1) 0*(1+c)
def B4b (w:WD)(a:Nat)(n:Int):Prop:=CPs w a n∨CPi w a n∨CPc w a n∨CPf w a n
def A3j (l:List Int):Int:=l.foldl (fun s n=>min (s+n) 1099511627776) 0
theorem A5I {l:List Int}{i:Nat}(hi:i<l.length):A3j (l.take (i+1))=min (A3j (l.take i)+l.getD i 0) 1099511627776:=by unfold A3j;rw[List.take_add_one,z0 hi,x4,List.foldl_append,z7,z0 hi,y9];rfl
theorem B3A {l:List Int}{i:Nat}(hi:¬i<l.length):A3j (l.take i)=A3j l:=by rw[y5 (by omega)]
theorem B0i (l:List Int)(h:∀n∈l,0≤n):∀i,0≤A3j (l.take i)∧A3j (l.take i)≤1099511627776
 |0=>by simp[A3j]
 |i+1=>by
  have a:=B0i l h i;by_cases hi:i<l.length
  ·rw[A5I hi];have:0≤l.getD i 0:=(by rw[z7,z0 hi];exact h _ (y7 hi));omega
  ·rw[y5 (by omega)];rw[y5 (by omega)] at a;exact a
theorem prQ {w wr:WD}{px:Option Addr}{n:Int}{k:Nat}(h:∀b:WD,HQ b w→∀R:RP,R (.returned (.int .i64 n)) b→Calls Tryz.prog 99 #[.pointer px] b R)(c:HQ wr w):Calls Tryz.prog 99 #[.pointer px] (wr.drewN k) fun e a=>e=.returned (.int .i64 n)∧∃m,a=wr.drewN m:=h (wr.drewN k) c (fun e a=>e=.returned (.int .i64 n)∧∃m,a=wr.drewN m) ⟨rfl,k,rfl⟩
theorem C6 {w wr:WD}{p:Addr}{v:VL}(b:HQ wr w)(a:w.cell? p=some v):wr.cell? p=some v:=by unfold World.cell? at a ⊢;rw[b.1];exact a
theorem A4J:∀{l:List (Nat×Int)}{k:Nat}{m:Int},k<l.length→mxL (l.take (k+1)) m=max (mxL (l.take k) m) (l.getD k (0,0)).2
 |[],k,m,h=>by simp at h
 |p::t,0,m,_=>rfl
 |p::t,k+1,m,h=>by
  simp only[x2,mxL];rw[A4J (l:=t) (k:=k) (by simpa using h)];rfl
theorem A4E:∀{l:List (Nat×Int)}{k:Nat},k<l.length→lnL (l.take (k+1))=lnL (l.take k)+(l.getD k (0,0)).1
 |[],k,h=>by simp at h
 |p::t,0,_=>by simp[lnL]
 |p::t,k+1,h=>by
  simp only[x2,lnL];rw[A4E (l:=t) (k:=k) (by simpa using h),List.getD_cons_succ];omega
theorem A7L {a:List (Nat×Int)}(h:∀p∈a,p.1≤1000∧0≤p.2∧p.2≤1099511627776){k:Nat}(b:k<a.length):(a.getD k (0,0)).1≤1000∧0≤(a.getD k (0,0)).2∧(a.getD k (0,0)).2≤1099511627776:=by rw[z7,z0 b];exact h _ (y7 b)
theorem A98 {a:List (Nat×Int)}{b:Int}(h:∀p∈a,p.1≤1000∧0≤p.2∧p.2≤1099511627776)(c:0≤b∧b≤1099511627776):∀k:Nat,k≤a.length→(0≤lnL (a.take k)∧lnL (a.take k)≤1000*(k:Int))∧0≤mxL (a.take k) b∧mxL (a.take k) b≤1099511627776
 |0,_=>by simp[lnL,mxL];omega
 |k+1,hk=>by
  have d:=A98 h c k (by omega);have:=A7L h (show k<a.length by omega);rw[A4E (by omega),A4J (by omega)];omega
theorem B0t {w:WD}{lv:VL}(ns:List Int)(D:∀n∈ns,0≤n∧n≤10000000000000)(hl:B6W w lv ns.length (fun i j=>B4b w j (ns.getD i 0))):CoC w lv (A3j ns):=by
 intro w0 h0 R N;obtain⟨ao,cp,rfl,hcp,hn,hc⟩:=hl;have L:=B0i ns (fun n h=>(D n h).1);replace N:=hd N;replace hc:=hd hc;replace L:=hd L;replace D:=hd D;go_enter Tryz.func54,Tryz.ntmps54;go_wp2;go_loopw [3,4] (fun sv iv wr=>∃i:Nat,i≤ns.length∧sv=.int .i64 (A3j (ns.take i))∧iv=.int .i64 (i:Int)∧HQ wr w) (fun _ iv _=>ns.length-(intOf iv).toNat);case atStart=>exact⟨0,y8 _,rfl,rfl,h0⟩
 case round=>
  obtain⟨i,hi,rfl,rfl,a⟩:=hrel;rename WD=>wr;clear h0;by_cases C:i<ns.length
  ·have td:decide ((i:Int)<(ns.length:Int))=true:=(by simp;omega);obtain⟨g,rfl,hg,aa⟩:=hc.out (by omega);obtain⟨j,c0,hp⟩:=aa i C;have j0:(0:Int)≤(i:Int)∧(i:Int)<(ns.length:Int):=(by omega);have l:=A5I C;have hb1:=L.out i;obtain⟨n,en⟩:∃n,n=ns.getD i 0:=⟨_,rfl⟩;have hnb:0≤n∧n≤10000000000000:=(by rw[en,z7,z0 C];exact D.out _ (y7 C));rw[←en] at l hp;generalize A3j (ns.take i)=S at*;have js:IntKind.i64.wrap (S+n)=S+n:=z8 _ (by omega);replace l:=hd l;replace en:=hd en;have Y:=C6 a c0;have hgw:g<wr.heap.size:=(by rw[a.1];exact hg);clear aa;rcases hp with ⟨bp,be,kd',n',far,nm,op,x,y,t,pa,z,d,K,ha,he,b1,b2,rfl⟩|⟨bc,ys,I,pc,cy,P,d,B,o,q,b1,b2,Q,rfl⟩|⟨be,I,br,z,P,r,d,s,q,hbr,b1,b2,Q,rfl⟩|⟨nm,ba,bb,ys,X,U,f1,f2,t1,t2,c,d,ra,rb,o,b1,b2,Q,rfl⟩
   ·have V:wr.cell? ⟨j,0,none⟩=some (.int .u8 61):=C6 a (d.cell (i:=0) (by omega));have s1:wr.cell? ⟨j,1,none⟩=some (.pointer (some ⟨bp,0,none⟩)):=C6 a (d.cell (i:=1) (by omega));have J:wr.cell? ⟨j,3,none⟩=some (.pointer (some ⟨be,0,none⟩)):=C6 a (d.cell (i:=3) (by omega));have p5:wr.cell? ⟨bp,5,none⟩=some (.pointer (x.map (fun b=>⟨b,0,none⟩))):=C6 a (K.cell (i:=5) (by omega));have lb:j<wr.heap.size:=(by rw[a.1];exact d.lt);have lp:bp<wr.heap.size:=(by rw[a.1];exact K.lt);have j1:IntKind.i64.wrap (1+pa)=1+pa:=z8 _ (by omega);have j2:IntKind.i64.wrap (1+pa+z)=1+pa+z:=z8 _ (by omega);unfold PrC at ha he;simp only[x1] at he;generalize Option.map (fun b=>(⟨b,0,none⟩:Addr)) x=px at*;replace ha:=hd ha;replace he:=hd he;replace a:=hd a;clear d K c0;go_wp2_with (fail);go_quiet (first|(go_at_call 99;first|(with_reducible refine prQ (px:=px) (n:=pa) ?_ a.out;exact ha.out)|(with_reducible refine prQ (px:=some ⟨be,0,none⟩) (n:=z) ?_ a.out;exact he.out)));go_wp2;exact⟨⟨i+1,by omega,by rw[l.out],by go_num,a.out⟩,by simp[intOf];omega⟩
   ·have V:wr.cell? ⟨j,0,none⟩=some (.int .u8 63):=C6 a (d.cell (i:=0) (by omega));have J:wr.cell? ⟨j,3,none⟩=some (.pointer (some ⟨bc,0,none⟩)):=C6 a (d.cell (i:=3) (by omega));have s5:wr.cell? ⟨j,5,none⟩=some ys:=C6 a (d.cell (i:=5) (by omega));have lb:j<wr.heap.size:=(by rw[a.1];exact d.lt);have j1:IntKind.i64.wrap (1+pc)=1+pc:=z8 _ (by omega);have j2:IntKind.i64.wrap (1+pc+max cy P)=1+pc+max cy P:=z8 _ (by omega);unfold PrC at B;unfold CoC at o q;simp only[x1] at B;replace B:=hd B;replace o:=hd o;replace q:=hd q;replace d:=hd d;clear c0;go_wp2_with (fail);refine o.out _ a _ ?_;intro w1 f;have s6:w1.cell? ⟨j,6,none⟩=some I:=C6 f (d.out.cell (i:=6) (by omega));have lb1:j<w1.heap.size:=(by rw[f.1];exact d.out.lt);replace a:=hd a;clear V J s5;go_wp2_with (fail);refine q.out _ f _ ?_;intro H e;have J:H.cell? ⟨j,3,none⟩=some (.pointer (some ⟨bc,0,none⟩)):=C6 e (d.out.cell (i:=3) (by omega));have lb2:j<H.heap.size:=(by rw[e.1];exact d.out.lt);replace f:=hd f;clear s6;go_wp2_with (fail);refine B.out _ e _ ?_;go_wp2;exact⟨⟨i+1,by omega,by rw[l.out],by go_num,e⟩,by simp[intOf];omega⟩
   ·have V:wr.cell? ⟨j,0,none⟩=some (.int .u8 99):=C6 a (d.cell (i:=0) (by omega));have J:wr.cell? ⟨j,3,none⟩=some (.pointer (some ⟨be,0,none⟩)):=C6 a (d.cell (i:=3) (by omega));have s6:wr.cell? ⟨j,6,none⟩=some I:=C6 a (d.cell (i:=6) (by omega));have lb:j<wr.heap.size:=(by rw[a.1];exact d.lt);have j1:IntKind.i64.wrap (1+z)=1+z:=z8 _ (by omega);have hcb:=hd (A98 Q b2);obtain⟨ao2,cp2,rfl,hcp2,hn3,O⟩:=hbr;unfold PrC at s;unfold CoC at q;simp only[x1] at s;replace s:=hd s;replace q:=hd q;replace d:=hd d;replace O:=hd O;replace Q:=hd Q;clear c0;go_wp2_with (fail);refine s.out _ a _ ?_;go_wp2_with (fail);refine q.out _ a _ ?_;intro w1 f;replace a:=hd a;clear V J s6 Y td j0;go_wp2;go_loopw [6,9,10] (fun nv mv kv H=>∃k:Nat,k≤r.length∧nv=.int .i64 (1+z+lnL (r.take k))∧mv=.int .i64 (mxL (r.take k) P)∧kv=.int .i64 (k:Int)∧HQ H w) (fun _ _ kv _=>r.length-(intOf kv).toNat);case atStart=>exact⟨0,y8 _,by simp[lnL],rfl,rfl,f⟩
    case round=>
     obtain⟨k,hk,rfl,rfl,rfl,e⟩:=hrel;rename WD=>H;replace f:=hd f;have s7:H.cell? ⟨j,7,none⟩=some (.slice ao2 r.length cp2):=C6 e (d.out.cell (i:=7) (by omega));have lb2:j<H.heap.size:=(by rw[e.1];exact d.out.lt);by_cases E:k<r.length
     ·have td2:decide ((k:Int)<(r.length:Int))=true:=(by simp;omega);obtain⟨g2,rfl,hg2,F⟩:=O.out (by omega);obtain⟨u,v,u1,u2,⟨ao3,cp3,rfl⟩,Z⟩:=F k E;have u1':=C6 e u1;have u2':=C6 e u2;have lg2:g2<H.heap.size:=(by rw[e.1];exact hg2);have j2:(0:Int)≤(k:Int)∧(k:Int)<(r.length:Int):=(by omega);have hpg:=A7L Q.out E;have ab:=hcb.out k hk;have e1:=A4J (m:=P) E;have e2:=A4E E;generalize r.getD k (0,0)=p at*;obtain⟨p1,p2⟩:=p;simp only at hpg Z e1 e2 u1';generalize lnL (r.take k)=A at*;generalize mxL (r.take k) P=M at*;have j3:IntKind.i64.wrap (1+z+A+(p1:Int))=1+z+A+(p1:Int):=z8 _ (by omega);unfold CoC at Z;replace Z:=hd Z;replace e1:=hd e1;replace e2:=hd e2;clear F u1 u2;go_wp2_with (fail);refine Z.out _ e _ ?_;intro w3 hw3;replace e:=hd e;go_wp2;exact⟨⟨k+1,by omega,by rw[e2.out];congr 1;omega,by rw[e1.out],by go_num,hw3⟩,by simp[intOf];omega⟩
     ·have td2:decide ((k:Int)<(r.length:Int))=false:=(by simp;omega);have ab:=hcb.out k hk;rw[y5 (show r.length≤k by omega)] at ab ⊢;generalize lnL r=A at*;generalize mxL r P=M at*;have j3:IntKind.i64.wrap (1+z+A+M)=1+z+A+M:=z8 _ (by omega);go_wp2;exact⟨⟨i+1,by omega,by rw[l.out],by go_num,e⟩,by simp[intOf];omega⟩
   ·have V:wr.cell? ⟨j,0,none⟩=some (.int .u8 102):=C6 a (d.cell (i:=0) (by omega));have J:wr.cell? ⟨j,3,none⟩=some (.pointer (some ⟨ba,0,none⟩)):=C6 a (d.cell (i:=3) (by omega));have s4:wr.cell? ⟨j,4,none⟩=some (.pointer (some ⟨bb,0,none⟩)):=C6 a (d.cell (i:=4) (by omega));have s5:wr.cell? ⟨j,5,none⟩=some ys:=C6 a (d.cell (i:=5) (by omega));have a1:wr.cell? ⟨ba,1,none⟩=some (.int .i64 X):=C6 a (ra.cell (i:=1) (by omega));have a2:wr.cell? ⟨bb,1,none⟩=some (.int .i64 U):=C6 a (rb.cell (i:=1) (by omega));have lb:j<wr.heap.size:=(by rw[a.1];exact d.lt);have la:ba<wr.heap.size:=(by rw[a.1];exact ra.lt);have lb':bb<wr.heap.size:=(by rw[a.1];exact rb.lt);have j1:IntKind.i64.wrap (U-X)=U-X:=z8 _ (by omega);have j2:IntKind.i64.wrap (U-X+1)=U-X+1:=z8 _ (by omega);unfold CoC at o;replace o:=hd o;clear d ra rb c0;obtain⟨T,eT⟩:∃T,T=max (U-X+1) 0:=⟨_,rfl⟩;rw[←eT] at l js hnb;go_wp2_with (fail);go_region;all_goals
     go_wp2_with (fail)
     rw[←eT]
     refine o.out wr.drew a _ ?_
     intro w1 f
     have hT0:0≤T:=by omega
     have hT1:T≤10000000000:=by omega
     have jc:IntKind.i64.wrap (1+c)=1+c:=z8 _ (by omega)
     replace a:=hd a
     replace eT:=hd eT
     clear V J s4 s5 a1 a2 Y j1 j2
     by_cases cT:0<T
     ·have d1:decide (0<T)=true:=(by simpa using cT);go_wp2;all_goals rename_i hq
      ·exact⟨⟨i+1,by omega,by rw[l.out,if_pos ⟨cT,hq⟩],by go_num,f⟩,by simp[intOf];omega⟩
      ·exact⟨⟨i+1,by omega,by rw[l.out,if_neg (fun x=>Int.not_lt.2 hq x.2)],by go_num,f⟩,by simp[intOf];omega⟩
     ·have d1:decide (0<T)=false:=(by simpa using cT);have hT2:T=0:=(by omega);subst hT2;go_wp2;exact⟨⟨i+1,by omega,by rw[l.out,if_neg (fun x=>absurd x.1 (by omega))];simp,by go_num,f⟩,by simp[intOf];omega⟩
  ·have td:decide ((i:Int)<(ns.length:Int))=false:=(by simp;omega);have G:=hd (N.out _ a);rw[←B3A C] at G;generalize A3j (ns.take i)=S at*;go_wp2;exact A6 G.out rfl
section
mutual
def fiS:Q3→Bool
 |.set _ _=>true
 |.setx _ _ _=>true
 |.ife _ t o=>fiL t&&fiL o
 |.cas _ ws o=>fiW ws&&fiL o
 |.loop _ f l b=>inD f&&inD l&&fiL b
def fiL:Sl→Bool
 |.nil=>true
 |.cons h t=>fiS h&&fiL t
def fiW:Wl→Bool
 |.nil=>true
 |.cons _ b t=>fiL b&&fiW t
end
def X2:Int:=1099511627776
def brL:Wl→List (Nat×Int)
 |.nil=>[]
 |.cons ns b t=>(ns.length,min (C0 b) X2)::brL t
def dS:Q3→Int
 |.set _ e=>1+0+cE e
 |.setx _ i e=>1+cE i+cE e
 |.ife c t o=>1+cE c+max (min (C0 t) X2) (min (C0 o) X2)
 |.cas e ws o=>1+cE e+lnL (brL ws)+mxL (brL ws) (min (C0 o) X2)
 |.loop _ f l b=>if 0<max (l-f+1) 0∧X2/(1+min (C0 b) X2)<max (l-f+1) 0 then X2 else 1+max (l-f+1) 0*(1+min (C0 b) X2)
def dsL:Sl→List Int
 |.nil=>[]
 |.cons h t=>dS h::dsL t
theorem A96:∀l,(dsL l).length=l.len
 |.nil=>rfl
 |.cons _ t=>by simp[dsL,Sl.len,A96 t]
theorem A9T:∀l,(brL l).length=l.len
 |.nil=>rfl
 |.cons _ _ t=>by simp[brL,Wl.len,A9T t]
theorem B27:∀l,lnL (brL l)=cN l
 |.nil=>rfl
 |.cons ns _ t=>by simp only[brL,lnL,cN,B27 t]
theorem B3o:∀(l:Wl) (o:Int),mxL (brL l) (min o X2)=min (cW l o) X2
 |.nil,_=>rfl
 |.cons _ b t,o=>by
  simp only[brL,mxL,cW];rw[A4L,B3o t]
theorem A9v (s:Q3):min (dS s) X2=min (cS s) X2:=by
 cases s with
 |set s e=>simp only[dS,cS];congr 1
 |setx s i e=>rfl
 |ife c t o=>
  have:=B5 c;have:=G2 t;have:=G2 o;simp only[dS,cS,A4L];unfold X2;omega
 |cas e ws o=>
  have:=B5 e;have:=A2I ws;have:=A2G ws (C0 o);have:=G2 o;simp only[dS,cS,B27,B3o];unfold X2;omega
 |loop s f l b=>
  have:=G2 b;simp only[dS,cS];rw[B2N (by unfold X2;omega),A5M (by unfold X2;omega) (by omega) (by omega),Int.max_comm (l-f+1) 0]
theorem B2v (s:Q3):0≤dS s:=by have a:=A9v s;have b:=A2L s;unfold X2 at a;omega
theorem B5t:∀(l:Wl),∀p∈brL l,0≤p.2∧p.2≤1099511627776
 |.nil,p,a=>by cases a
 |.cons ns b t,p,a=>by
  rcases x3.1 a with rfl|a
  ·have:=G2 b;simp only;unfold X2;omega
  ·exact B5t t p a
theorem A7B:∀(l:Wl),U4 l≤1000→∀p∈brL l,p.1≤1000
 |.nil,_,p,a=>by cases a
 |.cons ns b t,hn,p,a=>by
  have:=B0 b;have:=J9 t;simp only[U4] at hn;rcases x3.1 a with rfl|a
  ·simp only;omega
  ·exact A7B t (by omega) p a
theorem B1R:∀l:Wl,cN l≤U4 l
 |.nil=>by simp[cN,U4]
 |.cons ns b t=>by
  have:=B1R t;have:=B0 b;simp only[cN,U4];omega
theorem B6J (s:Q3)(m:I2 s≤1000):dS s≤10000000000000:=by
 cases s with
 |set s e=>have:=B5 e;simp only[I2,dS] at*;omega
 |setx s i e=>have:=B5 e;have:=B5 i;simp only[I2,dS] at*;omega
 |ife c t o=>
  have:=B0 t;have:=B0 o;simp only[I2,dS] at*;unfold X2;omega
 |cas e ws o=>
  have:=B0 o;have:=B1R ws;simp only[I2,dS,B27,B3o] at*;unfold X2;omega
 |loop s f l b=>
  have k:=G2 b;simp only[dS];by_cases c:0<max (l-f+1) 0∧X2/(1+min (C0 b) X2)<max (l-f+1) 0
  ·rw[if_pos c];unfold X2;omega
  ·rw[if_neg c];by_cases d:0<max (l-f+1) 0
   ·have a:max (l-f+1) 0≤X2/(1+min (C0 b) X2):=Int.not_lt.1 (fun h=>c ⟨d,h⟩);have j:0<1+min (C0 b) X2:=(by unfold X2;omega);have g:=(Int.le_ediv_iff_mul_le j).1 a;unfold X2 at g ⊢;omega
   ·rw[show max (l-f+1) 0=0 by omega,Int.zero_mul];omega
theorem B0b:∀(l:Sl) (s:Int),0≤s→(dsL l).foldl (fun s n=>min (s+n) 1099511627776) (min s X2)=min (s+C0 l) X2
 |.nil,s,_=>by simp[dsL,C0]
 |.cons h t,s,hs=>by
  have a:=A9v h;have c:=B2v h;have b:=A2L h;simp only[dsL,List.foldl_cons,C0];rw[show min (min s X2+dS h) 1099511627776=min (s+cS h) X2 by unfold X2 at a ⊢;omega,B0b t (s+cS h) (by omega)];congr 1;omega
theorem B4V (l:Sl):A3j (dsL l)=min (C0 l) X2:=by have:=B0b l 0 (Int.le_refl _);rw[show min (0:Int) X2=0 by unfold X2;omega,Int.zero_add] at this;exact this
theorem A9x:∀(l:Sl),O6 l≤1000→∀n∈dsL l,0≤n∧n≤10000000000000
 |.nil,_,n,h=>by cases h
 |.cons h t,hn,n,a=>by
  have:=U8 h;have:=B0 t;simp only[O6] at hn;rcases x3.1 a with rfl|a
  ·exact⟨B2v h,B6J h (by omega)⟩
  ·exact A9x t (by omega) n a
section
variable {TT:Ex→Int→Prop}{w:WD}
theorem B7N:PrC w none 0:=fun a _ R b=>Q6 a R b
theorem A7f {e:Ex}{lo hi b:Nat}(d:cE e≤1000000)(h:DE TT e lo hi w b):PrC w (some b) (cE e):=fun f a R g=>A1R e d (h.keep (w':=f) (fun c _ _=>by rw[a.1])) R g
theorem A5p {lo hi:Nat}{lv:VL}{xs:List VL}{l:Sl}(c:C2 w lo hi 181 1 lv l.len xs)(b:O6 l≤1000)(d:∀i,i<l.len→∃a,xs[i]? =some (.pointer (some ⟨a,0,none⟩))∧B4b w a ((dsL l).getD i 0)):CoC w lv (min (C0 l) X2):=by rw[←B4V];have:=B0 l;refine B0t (dsL l) (A9x l b) ?_;rw[A96];exact B17 c (by omega) d
theorem B6K {lo hi T a n:Nat}{v:VL}{xs:List VL}(h:C2 w lo hi T a v n xs):∃b c,v=.slice b n c:=A7 h.1
mutual
theorem coS:∀(s:Q3){lo hi b:Nat},I2 s≤1000→fiS s=true→DZ TT s lo hi w b→B4b w b (dS s)
 |.set s e,lo,hi,b,hn,hf,⟨_,_,bp,be,hr,⟨_,_,t,_,h1⟩,h2⟩=>by
  have z:=B5 e;simp only[I2] at hn;exact .inl ⟨bp,be,_,_,_,_,_,_,_,_,0,cE e,hr,h1,B7N,A7f (by omega) h2,by omega,by omega,rfl⟩
 |.setx s i e,lo,hi,b,hn,hf,⟨_,_,bp,be,hr,⟨_,_,bi,⟨t,_,h1⟩,h3⟩,h2⟩=>by
  have z:=B5 e;have z2:=B5 i;simp only[I2] at hn;exact .inl ⟨bp,be,_,_,_,_,_,_,_,_,cE i,cE e,hr,h1,A7f (by omega) h3,A7f (by omega) h2,by omega,by omega,rfl⟩
 |.ife c t o,lo,hi,b,hn,hf,⟨_,_,bc,ys,ns,m1,m2,hr,_,_,_,h1,⟨xs,r1,d1⟩,⟨xs2,r2,d2⟩⟩=>by
  have z1:=B5 c;have z2:=B0 t;have z3:=B0 o;have z4:=G2 t;have z5:=G2 o;simp only[I2] at hn;simp only[fiS,y6] at hf;exact .inr (.inl ⟨bc,ys,ns,cE c,min (C0 t) X2,min (C0 o) X2,hr,A7f (by omega) h1,A5p r1 (by omega) (coX t (by omega) hf.1 d1),A5p r2 (by omega) (coX o (by omega) hf.2 d2),by omega,by unfold X2;omega,by unfold X2;omega,rfl⟩)
 |.cas e ws o,lo,hi,b,hn,hf,⟨_,_,be,ns,br,m1,m2,hr,_,_,_,h1,⟨xs,r1,d1⟩,⟨xs2,r2,d2⟩⟩=>by
  have z1:=B5 e;have z2:=J9 ws;have z3:=B0 o;have z5:=G2 o;simp only[I2] at hn;simp only[fiS,y6] at hf;exact .inr (.inr (.inl ⟨be,ns,br,cE e,min (C0 o) X2,brL ws,hr,A7f (by omega) h1,A5p r2 (by omega) (coX o (by omega) hf.2 d2),by rw[A9T];exact B5e r1 (by omega) (coW ws (by omega) hf.1 d1),by omega,by unfold X2;omega,fun p hp=>⟨A7B ws (by omega) p hp,B5t ws p hp⟩,rfl⟩))
 |.loop s f l bd,lo,hi,b,hn,hf,⟨_,_,ba,bb,ys,m1,m2,hr,_,_,_,⟨_,_,t1,_,h1⟩,⟨_,_,t2,_,h2⟩,⟨xs,r1,d1⟩⟩=>by
  have z2:=B0 bd;have z4:=G2 bd;simp only[I2] at hn;simp only[fiS,inD,y6,decide_eq_true_eq] at hf;rw[A8X hf.1.1] at h1;rw[A8X hf.1.2] at h2;exact .inr (.inr (.inr ⟨s,ba,bb,ys,f,l,_,_,t1,t2,min (C0 bd) X2,hr,h1,h2,A5p r1 (by omega) (coX bd (by omega) hf.2 d1),by omega,by omega,by unfold X2;omega,rfl⟩))
theorem coX:∀(l:Sl){g:Option Nat}{lo hi:Nat}{xs:List VL},O6 l≤1000→fiL l=true→DL TT g l lo hi w xs→∀i,i<l.len→∃b0,xs[i]? =some (.pointer (some ⟨b0,0,none⟩))∧B4b w b0 ((dsL l).getD i 0)
 |.nil,g,lo,hi,xs,hn,_,_,i,hi'=>by simp[Sl.len] at hi'
 |.cons h t,g,lo,hi,xs,hn,hf,⟨b0,ys,a,b,m',e,_,_,_,_,_,d1,d2⟩,i,hi'=>by
  have z1:=U8 h;have z2:=B0 t;simp only[O6] at hn;simp only[Sl.len] at hi';simp only[fiL,y6] at hf;cases i with
  |zero=>exact⟨b0,by rw[e];rfl,coS h (by omega) hf.1 d1⟩
  |succ i=>
   obtain⟨b1,y1,y2⟩:=coX t (by omega) hf.2 d2 i (by omega);exact⟨b1,by rw[e];simpa using y1,y2⟩
theorem coW:∀(l:Wl){g:Option Nat}{lo hi:Nat}{xs:List VL},U4 l≤1000→fiW l=true→DW TT g l lo hi w xs→∀i,i<l.len→∃u v,xs[i*2]? =some u∧xs[i*2+1]? =some v∧(∃ao cp,u=.slice ao ((brL l).getD i (0,0)).1 cp)∧CoC w v ((brL l).getD i (0,0)).2
 |.nil,g,lo,hi,xs,hn,_,_,i,hi'=>by simp[Wl.len] at hi'
 |.cons ns bd t,g,lo,hi,xs,hn,hf,⟨vn,vb,ys,a,m1,c,m',e,_,_,_,_,_,_,⟨_,r0,_⟩,⟨zs,r1,d1⟩,d2⟩,i,hi'=>by
  have z1:=B0 bd;have z2:=J9 t;simp only[U4] at hn;simp only[Wl.len] at hi';simp only[fiW,y6] at hf;cases i with
  |zero=>exact⟨vn,vb,by rw[e];rfl,by rw[e];rfl,B6K r0,A5p r1 (by omega) (coX bd (by omega) hf.1 d1)⟩
  |succ i=>
   obtain⟨u,v,y1,y2,y3,y4⟩:=coW t (by omega) hf.2 d2 i (by omega);refine⟨u,v,?_,?_,y3,y4⟩
   ·rw[e,show (i+1)*2=i*2+1+1 by omega];simpa using y1
   ·rw[e,show (i+1)*2+1=i*2+1+1+1 by omega];simpa using y2
end
theorem B5C (l:Sl){lo hi:Nat}{lv:VL}{xs:List VL}(a:O6 l≤1000)(b:fiL l=true)(c:C2 w lo hi 181 1 lv l.len xs)(h:DL TT lv.ownBlock l lo hi w xs):CoC w lv (min (C0 l) X2):=A5p c a (coX l a b h)
end
end
theorem B4B (x s:BA):B6 x s=decide (s=x):=by
 by_cases h:s=x
 ·subst h;rw[B1q];simp
 ·have:=B2a h;unfold B6;rw[this];simp[h]
theorem B1I (s:BA)(ls:LB):amB s ls=ls.any (fun x=>decide (s=x)):=by unfold amB;congr 1;funext x;exact B4B x s
def WdO (w:WD)(lo hi:Nat)(ls:LB)(lv:VL):Prop:=∃a b,lv=.slice a ls.length b∧ls.length≤b∧(0<ls.length→∃g,a=some ⟨g,0,none⟩∧g<w.heap.size∧(g<lo∨hi≤g)∧∀(j:Nat) (s:BA),ls[j]? =some s→w.cell? ⟨g,j,none⟩=some (.string s))
theorem WdO.at {w:WD}{lo hi:Nat}{ls:LB}{lv:VL}(h:WdO w lo hi ls lv):A41 w ls lv:=by obtain⟨b,i,f,k,d⟩:=h;exact⟨b,i,f,k,fun j=>by obtain⟨g,a,c,_,e⟩:=d j;exact⟨g,a,c,e⟩⟩
theorem B0z {w w':WD}{g j:Nat}(h:w'.heap[g]? =w.heap[g]?):w'.cell? ⟨g,j,none⟩=w.cell? ⟨g,j,none⟩:=by unfold World.cell?;simp only[h]
theorem WdO.keep {w w':WD}{lo hi lo' hi':Nat}{ls:LB}{lv:VL}(h:WdO w lo hi ls lv)(q:w.heap.size≤w'.heap.size)(d:∀c,c<w.heap.size→c<lo∨hi≤c→w'.heap[c]? =w.heap[c]?)(r:lo≤lo')(t:hi'≤hi):WdO w' lo' hi' ls lv:=by obtain⟨m,e,k,n,o⟩:=h;refine⟨m,e,k,n,fun p=>?_⟩;obtain⟨g,i,l,a,f⟩:=o p;exact⟨g,i,by omega,by omega,fun j s b=>by rw[B0z (d g l a)];exact f j s b⟩
theorem B4m {d:Ex→Int→Prop}{P:Ex}{s:BA}{lo hi b:Nat}{w:WD}(c:P=.plc s∨∃i,P=.idx s i)(h:DE d P lo hi w b):w.cell? ⟨b,3,none⟩=some (.string s)∧b<w.heap.size:=by
 rcases c with rfl|⟨i,rfl⟩
 ·obtain⟨_,_,t,_,a⟩:=h;exact⟨a.cell (i:=3) (by omega),a.lt⟩
 ·obtain⟨_,_,_,⟨t,_,a⟩,_⟩:=h;exact⟨a.cell (i:=3) (by omega),a.lt⟩
theorem B5y {vs:List Vd}{pb m:Nat}{av lv:VL}{lo hi b bp M:Nat}{w:WD}{P e:Ex}{s:BA}{ls:LB}{v:Vd}(J:Dg vs pb m av w)(S:m≤lo)(aa:lo≤b)(U:b<hi)(X:A13 vs P)(V:A13 vs e)(C:knE vs P=true)(D:knE vs e=true)(Q:P=.plc s∨∃i,P=.idx s i)(G:C1 vs s=some v)(E:w.rowIs b 186 8 (dsF 61 (some bp) ⟨#[]⟩ (some M) none nlS nlS nlS))(z:DE TA P lo b w bp)(y:DE TA e (b+1) hi w M)(n:WdO w lo hi ls lv)(Y:ls.length≤1000)(R:RP)(j:∀w',Kz lo hi w w'→R (.returned (.bool (setT (K6 vs P) (K6 vs e) (ls.any (fun x=>decide (s=x))) v.role))) w'):Calls Tryz.prog 90 #[.pointer (some ⟨pb,0,none⟩),.pointer (some ⟨b,0,none⟩),lv] w R:=by
 have s1:w.cell? ⟨b,1,none⟩=some (.pointer (some ⟨bp,0,none⟩)):=E.cell (i:=1) (by omega);have lb:=E.lt;rw[←B1I] at j;replace j:=hd j;replace E:=hd E;replace n:=hd n;go_enter Tryz.func90,Tryz.ntmps90;go_wp2_with (fail);refine X J S C z _ ?_;intro w1 q L;have d:=E.out.of_block (q.out b (.inr (y0 _)));have O:w1.cell? ⟨b,3,none⟩=some (.pointer (some ⟨M,0,none⟩)):=d.cell (i:=3) (by omega);have ab:=d.lt;have o:=J.kz q S;have k:=y.keep (w':=w1) (fun c c1 _=>q.out c (.inr (by omega)));clear y z C s1;replace d:=hd d;replace L:=hd L;replace q:=hd q;replace J:=hd J;go_wp2_with (fail);refine V o (by omega) D k _ ?_;intro t F e2;have l:=d.out.of_block (F.out b (.inl (by omega)));have Z:t.cell? ⟨b,1,none⟩=some (.pointer (some ⟨bp,0,none⟩)):=l.cell (i:=1) (by omega);have T:=l.lt;have B:=hd (o.kz F (by omega));have u:=L.out.keep (w':=t) (fun c _ c2=>F.out c (.inl (by omega)));obtain⟨p3,lp⟩:=B4m Q u;have kk:Kz lo hi w t:=(q.out.wide (hi':=hi) (y0 _) (by omega)).trans F (by omega) (y0 _);have r:=hd (n.out.keep (w':=t) (lo':=lo) (hi':=hi) (by rw[kk.sz];exact y0 _) (fun c _ hc=>kk.out c hc) (y0 _) (y0 _));have a:=j.out t kk;obtain⟨A,I⟩:∃A,amB s ls=A:=⟨_,rfl⟩;rw[I] at a;unfold setT at a;clear l u e2 F kk k D o O;generalize K6 vs P=T1 at*;generalize K6 vs e=T2 at*;have z1:(T1== -1)=decide (T1= -1):=(by by_cases h:T1= -1<;>simp[h]);have z2:(T2== -1)=decide (T2= -1):=(by by_cases h:T2= -1<;>simp[h]);have z3:(T1==T2)=decide (T1=T2):=(by by_cases h:T1=T2<;>simp[h]);have z4:(T1==2)=decide (T1=2):=(by by_cases h:T1=2<;>simp[h]);have z5:(T2==1)=decide (T2=1):=(by by_cases h:T2=1<;>simp[h]);have z6:((v.role:Int)==0)=decide (v.role=0):=A0r _ 0;generalize decide (T1= -1)=p1 at*;generalize decide (T2= -1)=p2 at*;generalize decide (T1=T2)=p3' at*;generalize decide (T1=2)=p4 at*;generalize decide (T2=1)=p5 at*;generalize decide (v.role=0)=p6 at*;replace a:=hd a;go_wp2_with (fail);refine V6 _ s (ls:=ls) (by exact r.out.at) (by omega) _ ?_;rw[I];replace I:=hd I;rcases (show p1=true∨(p1=false∧p2=true)∨(p1=false∧p2=false∧A=true)∨(p1=false∧p2=false∧A=false) by cases p1<;>cases p2<;>cases A<;>simp) with rfl|⟨rfl,rfl⟩|⟨rfl,rfl,rfl⟩|⟨rfl,rfl,rfl⟩
 ·go_wp2;exact A6 a.out (by simp)
 ·go_wp2;exact A6 a.out (by simp)
 ·go_wp2;exact A6 a.out (by simp)
 ·go_wp2_with (fail);refine A3z B.out s _ (fun e=>by rw[G] at e;cases e) ?_;intro g i v' cp K p f hg N H;rw[G] at f;injection f with f;subst f;obtain⟨k0,_,_,_,_⟩:=A1V B.out p H;have lg:=H.lt;replace H:=hd H;replace p:=hd p;replace G:=hd G;clear K N;cases p6 with
  |true=>
   go_wp2;exact A6 a.out (by simp)
  |false=>
   cases p3' with
   |true=>
    go_wp2;exact A6 a.out (by simp)
   |false=>
    cases p4 with
    |true=>
     go_wp2;exact A6 a.out (by simp)
    |false=>
     go_wp2;exact A6 a.out (by simp)
section
structure Kr (lo hi:Nat)(w w':WD):Prop where
 sz:w.heap.size≤w'.heap.size
 out:∀c,c<w.heap.size→c<lo∨hi≤c→w'.heap[c]? =w.heap[c]?
 tag:∀(c:Nat) (cur:Array VL) (T:Nat) (f:Nat×Nat),w.heap[c]? =some (.cells cur T f)→T≠194→w'.heap[c]? =w.heap[c]?
 ex:Ex7 w w'
 fr:w'.os=w.os∧w'.tape=w.tape∧w'.output=w.output
section
variable {lo hi lo' hi':Nat}{w w' w'':WD}
theorem Kr.refl:Kr lo hi w w:=⟨y0 _,fun _ _ _=>rfl,fun _ _ _ _ _ _=>rfl,Ex7.same (fun _ _ _ _=>rfl),rfl,rfl,rfl⟩
theorem Kr.of_kz (h:Kz lo hi w w'):Kr lo hi w w':=⟨by rw[h.sz];exact y0 _,fun c _ a=>h.out c a,h.tag,h.ex,h.fr⟩
theorem Kr.of_below (h:Below w.heap.size w w'):Kr lo hi w w':=⟨h.size,fun c a _=>h.block c a,fun c _ _ _ a _=>h.block c (z9.1 a).1,Ex7.same (fun c _ _ a=>h.block c (z9.1 a).1),h.os,h.tape,h.output⟩
theorem Kr.trans (h:Kr lo hi w w')(g:Kr lo hi w' w''):Kr lo hi w w'':=
 ⟨x5 h.sz g.sz,fun c a d=>(g.out c (Nat.lt_of_lt_of_le a h.sz) d).trans (h.out c a d),fun c cur T f a b=>(g.tag c cur T f ((h.tag c cur T f a b).trans a) b).trans (h.tag c cur T f a b),h.ex.trans g.ex,g.fr.1.trans h.fr.1,g.fr.2.1.trans h.fr.2.1,g.fr.2.2.trans h.fr.2.2⟩
theorem Kr.wide (h:Kr lo hi w w')(d:lo'≤lo)(e:hi≤hi'):Kr lo' hi' w w':=⟨h.sz,fun c a b=>h.out c a (by omega),h.tag,h.ex,h.fr⟩
theorem Kr.row {b n T:Nat}{f:Nat→VL}(h:Kr lo hi w w')(a:w.rowIs b T n f)(d:T≠194):w'.rowIs b T n f:=by obtain⟨c,e,_⟩:=id a;exact a.of_block (h.tag b c T _ e d)
theorem Kr.rowIn {c a T d n:Nat}{v:VL}{xs:List VL}(h:Kr lo hi w w')(f:C2 w c a T d v n xs)(e:T≠194):C2 w' c a T d v n xs:=f.tagZ (fun b cur g=>h.tag b cur T _ g e)
theorem Dg.kr {vs:List Vd}{pb m:Nat}{a:VL}(h:Dg vs pb m a w)(k:Kr lo hi w w')(d:m≤lo):Dg vs pb m a w':=h.keep (fun c b=>k.out c (Nat.lt_of_lt_of_le b h.le) (.inl (by omega))) (x5 h.le k.sz)
theorem WdO.kr {ls:LB}{lv:VL}{a b:Nat}(h:WdO w lo hi ls lv)(k:Kr lo hi w w')(c:lo≤a)(d:b≤hi):WdO w' a b ls lv:=h.keep k.sz k.out c d
theorem Kr.sm (h:Kr lo hi w w'){a b:Nat}{g:Option Nat}(e:b≤w.heap.size)(f:b≤lo∨hi≤a):Sm w w' a b g:=fun c d i _=>h.out c (by omega) (by omega)
end
def RtV (m pb:Nat)(b:VL)(lo hi:Nat)(w:WD)(ls:LB)(r:Bool):Prop:=∀a:WD,(∀c,c<m∨(lo≤c∧c<hi)→a.heap[c]? =w.heap[c]?)→w.heap.size≤a.heap.size→∀lv,WdO a lo hi ls lv→∀R:RP,(∀w',Kr lo hi a w'→R (.returned (.bool r)) w')→
 Calls Tryz.prog 51 #[.pointer (some ⟨pb,0,none⟩),b,lv] a R
mutual
def okS:Q3→Bool
 |.set _ e=>oOk e
 |.setx _ i e=>oOk i&&oOk e
 |.ife c t o=>oOk c&&okL t&&okL o
 |.cas e ws o=>oOk e&&okW ws&&okL o
 |.loop _ _ _ b=>okL b
def okL:Sl→Bool
 |.nil=>true
 |.cons h t=>okS h&&okL t
def okW:Wl→Bool
 |.nil=>true
 |.cons ns b t=>okL b&&(okW t&&decide (0<ns.length))
end
def A7o (vs:List Vd)(l:Sl):Prop:=∀{m pb:Nat}{a lv:VL}{lo hi:Nat}{w:WD}{xs:List VL}{ls:LB},Dg vs pb m a w→m≤lo→hi≤w.heap.size→C2 w lo hi 181 1 lv l.len xs→DL TA lv.ownBlock l lo hi w xs→ls.length+O6 l≤1000→RtV m pb lv lo hi w ls (Q9 vs ls l)
theorem A0n (m pb lo hi:Nat)(w:WD)(ls:LB):RtV m pb nlS lo hi w ls true:=by
 intro c _ _ lv _ R a;have b:=hd (a c Kr.refl);unfold nlS;clear a;go_enter Tryz.func51,Tryz.ntmps51;go_wp2;go_loopw [7] (fun d wr=>d=.int .i64 0∧c=wr) (fun _ _=>0);case atStart=>exact⟨rfl,rfl⟩
 case round=>
  obtain⟨rfl,e⟩:=hrel;subst e;go_wp2;exact A6 b.out rfl
mutual
def B8P (vs:List Vd):Q3→Prop
 |.set s e=>A13 vs (.plc s)∧A13 vs e
 |.setx s i e=>A13 vs (.idx s i)∧A13 vs e
 |.ife c t o=>A13 vs c∧A7o vs t∧A7o vs o
 |.cas e ws o=>A13 vs e∧B4T vs ws∧A7o vs o
 |.loop _ _ _ b=>A7o vs b
def B4T (vs:List Vd):Wl→Prop
 |.nil=>True
 |.cons _ b t=>A7o vs b∧B4T vs t
end
def B4c (vs:List Vd):Sl→Prop
 |.nil=>True
 |.cons h t=>B8P vs h∧B4c vs t
structure RtR (vs:List Vd)(ls:LB)(l:Sl)(lv:VL)(lo hi:Nat)(w:WD)(xs:List VL)(a:Sl)(i:Nat)(wr:WD):Prop where
 wt:Q9 vs ls l=Q9 vs ls a
 ln:i+a.len=l.len
 dl:∃lo',lo≤lo'∧DL TA lv.ownBlock a lo' hi wr (xs.drop i)
 sub:B4c vs a
 kn:knL vs a=true
 nd:ls.length+O6 a≤1000
 kr:Kr lo hi w wr
theorem RtV.to {m pb:Nat}{d:VL}{lo hi:Nat}{w w1:WD}{ls:LB}{r:Bool}(h:RtV m pb d lo hi w ls r)(b:∀c,c<m∨(lo≤c∧c<hi)→w1.heap[c]? =w.heap[c]?)(k:w.heap.size≤w1.heap.size):RtV m pb d lo hi w1 ls r:=
 fun j g i lv f R a=>h j (fun c e=>(g c e).trans (b c e)) (x5 k i) lv f R a
end
theorem B0R (w:WD)(g a:Nat)(b:TypeId):(Builtin.append_ #[81,81] b #[.slice (some ⟨g,0,none⟩) 0 0,.slice none 0 a]).run Tryz.prog w=.ok (.slice (some ⟨g,0,none⟩) 0 0) w:=by kernel_rfl
theorem A5K {w:WD}{g:Nat}(h:w.heap[g]? =some (.cells #[] 9)):w.ownsRow g 9 1 (.slice (some ⟨g,0,none⟩) 0 0) 0 []:=
 ⟨rfl,.inr ⟨g,0,#[],rfl,y0 _,h,y0 _,by unfold maxLen;omega,rfl,rfl⟩⟩
theorem Y9 {d:WD}{l:Array Oper}{b:List Oper}{o:Oper}{a:Act}{Q:Exit→Act→WD→Prop}(n:o.guard=none)(s x:Operand)(F:o.op=.call { callee:=.builtin .append,args:=#[s,x],argTypes:=#[81,81]})(g:Nat)(ls:LB)(lv:VL)(C:a.eval s=.slice (some ⟨g,0,none⟩) 0 0)(v:d.heap[g]? =some (.cells #[] 9))(E:a.eval x=lv)(y:A41 d ls lv)(R:ls.length≤1000)(h:∀r w',w'.ownsRow g 9 1 r ls.length (N6 ls)→Below g d w'→wpList Tryz.prog l Q b (a.put o.dst r) w'):wpList Tryz.prog l Q (o::b) a d:=by
 have G:g<d.heap.size:=(z9.1 v).1;obtain⟨N,M,rfl,H,D⟩:=y;cases N with
 |none=>
  have O:ls.length=0:=by
   by_cases c:0<ls.length
   ·obtain⟨_,e,_⟩:=D c;cases e
   ·omega
  have m:ls=[]:=List.eq_nil_of_length_eq_zero O;subst m;refine wpList_plain n fun K P=>?_;unfold Oper.wp execOp;simp only[F,resolve,invoke,builtin,Sem.run_bind,Sem.run_pure,Result.andThen_ok,List.map_toArray,List.map_cons,List.map_nil,C,E,List.length_nil,B0R];exact P _ _ (h _ _ (A5K v) (Below.refl _ _))
 |some ad=>
  have f:∀(j:Nat) (u:VL),(N6 ls)[j]? =some u→d.cell? (ad.add j)=some u:=fun j u i=>by unfold N6 at i;rw[List.getElem?_map] at i;obtain⟨t,z,rfl⟩:=Option.map_eq_some_iff.1 i;have p:0<ls.length:=(by have:=(List.getElem?_eq_some_iff.1 z).1;omega);obtain⟨A,e,_,I⟩:=D p;injection e with e;subst e;have q:(⟨A,0,none⟩:Addr).add j=⟨A,j,none⟩:=(by unfold Addr.add;split<;>simp_all);rw[q];exact I j t z
  refine I5 d n s x 81 F g 9 _ 1 16 A2H A0t rfl (by omega) _ 0 [] C (A5K v) ad ls.length M (N6 ls) E (by simp[N6]) f (fun u i=>?_) (by unfold maxLen;omega) (by omega) (by omega) ?_
  ·unfold N6 at i;obtain⟨t,_,rfl⟩:=List.mem_map.1 i;rfl
  ·intro r w' B J _;rw[Nat.zero_add,List.nil_append] at B;exact h r w' B ((Below.refl g d).grown J (by omega) (fun k L=>by have:g=k:=Option.some.inj (show some g=some k from L);omega))
theorem A4w {w':WD}{g lo hi:Nat}{ls:LB}{v:VL}(h:w'.ownsRow g 9 1 v ls.length (N6 ls))(f:hi≤g):WdO w' lo hi ls v:=by
 rcases h.2 with ⟨rfl,e⟩|⟨g',cap,cur,rfl,i,b,c,_,_,a⟩
 ·exact⟨none,0,by rw[e],by omega,fun x=>by omega⟩
 ·refine⟨_,cap,rfl,c,fun _=>⟨g',rfl,(z9.1 b).1,.inr (by omega),fun j s d=>?_⟩⟩;rw[cell_of_row w' g' j cur 9 (0,0) b];have:(N6 ls)[j]? =some (.string s):=(by unfold N6;rw[List.getElem?_map,d];rfl);rw[←a,List.getElem?_take] at this;split at this
  ·simpa using this
  ·cases this
end Go.Proofs.YtidhiaaicmfabaaGreatDoor
