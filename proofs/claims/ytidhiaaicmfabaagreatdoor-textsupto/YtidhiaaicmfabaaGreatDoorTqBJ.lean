/- Texts (its parts, joined). -/
import Derived.Test.YtidhiaaicmfabaaGreatDoorTqBI
open Option renaming bind_some→z0,map_some→y1,map_eq_some_iff→x0,map_none→x1
open Nat renaming le_refl→y0
namespace Go.Proofs.YtidhiaaicmfabaaGreatDoor
open Go.RowKit Go.Proofs Go.Deep
set_option maxRecDepth 100000
set_option maxHeartbeats 4000000
open World renaming size_setCell→z9
open IntWalk renaming i64_in→x2
section
def dsF (c:Nat)(e:Option Nat)(nm:BA)(a b:Option Nat)(d ns f:VL)(j:Nat):VL:=if j=0 then .int .u8 (c:Int) else if j=1 then .pointer (e.map (fun b=>⟨b,0,none⟩)) else if j=2 then .string nm else if j=3 then .pointer (a.map (fun b=>⟨b,0,none⟩)) else if j=4 then .pointer (b.map (fun b=>⟨b,0,none⟩)) else if j=5 then d else if j=6 then ns else f
def DT (TT:Ex→Int→Prop)(g:Option Nat):List Int→Nat→Nat→WD→List VL→Prop
 |[],_,_,_,xs=>xs=[]
 |n::t,lo,hi,w,xs=>∃c d a b m,xs=.pointer (some ⟨c,0,none⟩)::d∧lo≤a∧a≤b∧b≤m∧m≤hi∧Off g a b∧DE TT (.lit n) a b w c∧DT TT g t m hi w d
mutual
def DZ (TT:Ex→Int→Prop):Q3→Nat→Nat→WD→Nat→Prop
 |.set s e,lo,hi,w,b=>lo≤b∧b<hi∧∃bp be,w.rowIs b 186 8 (dsF 61 (some bp) ⟨#[]⟩ (some be) none (.slice none 0 0) (.slice none 0 0) (.slice none 0 0))∧DE TT (.plc s) lo b w bp∧DE TT e (b+1) hi w be
 |.setx s i e,lo,hi,w,b=>lo≤b∧b<hi∧∃bp be,w.rowIs b 186 8 (dsF 61 (some bp) ⟨#[]⟩ (some be) none (.slice none 0 0) (.slice none 0 0) (.slice none 0 0))∧DE TT (.idx s i) lo b w bp∧DE TT e (b+1) hi w be
 |.ife c t o,lo,hi,w,b=>lo≤b∧b<hi∧∃bc ys ns m1 m2,w.rowIs b 186 8 (dsF 63 none ⟨#[]⟩ (some bc) none ys ns (.slice none 0 0))∧b+1≤m1∧m1≤m2∧m2≤hi∧DE TT c (b+1) m1 w bc∧(∃xs,C2 w m1 m2 181 1 ys t.len xs∧DL TT ys.ownBlock t m1 m2 w xs)∧(∃xs,C2 w m2 hi 181 1 ns o.len xs∧DL TT ns.ownBlock o m2 hi w xs)
 |.cas e ws o,lo,hi,w,b=>lo≤b∧b<hi∧∃be ns br m1 m2,w.rowIs b 186 8 (dsF 99 none ⟨#[]⟩ (some be) none (.slice none 0 0) ns br)∧b+1≤m1∧m1≤m2∧m2≤hi∧DE TT e (b+1) m1 w be∧(∃xs,C2 w m1 m2 189 2 br ws.len xs∧DW TT br.ownBlock ws m1 m2 w xs)∧(∃xs,C2 w m2 hi 181 1 ns o.len xs∧DL TT ns.ownBlock o m2 hi w xs)
 |.loop s f l bd,lo,hi,w,b=>lo≤b∧b<hi∧∃ba bb ys m1 m2,w.rowIs b 186 8 (dsF 102 none s (some ba) (some bb) ys (.slice none 0 0) (.slice none 0 0))∧b+1≤m1∧m1≤m2∧m2≤hi∧DE TT (.lit f) (b+1) m1 w ba∧DE TT (.lit l) m1 m2 w bb∧(∃xs,C2 w m2 hi 181 1 ys bd.len xs∧DL TT ys.ownBlock bd m2 hi w xs)
def DL (TT:Ex→Int→Prop)(g:Option Nat):Sl→Nat→Nat→WD→List VL→Prop
 |.nil,_,_,_,xs=>xs=[]
 |.cons h t,lo,hi,w,xs=>∃b0 ys a b m,xs=.pointer (some ⟨b0,0,none⟩)::ys∧lo≤a∧a≤b∧b≤m∧m≤hi∧Off g a b∧DZ TT h a b w b0∧DL TT g t m hi w ys
def DW (TT:Ex→Int→Prop)(g:Option Nat):Wl→Nat→Nat→WD→List VL→Prop
 |.nil,_,_,_,xs=>xs=[]
 |.cons ns b t,lo,hi,w,xs=>∃vn vb ys a m1 c m,xs=vn::vb::ys∧lo≤a∧a≤m1∧m1≤c∧c≤m∧m≤hi∧Off g a c∧(∃zs,C2 w a m1 183 1 vn ns.length zs∧DT TT vn.ownBlock ns a m1 w zs)∧(∃zs,C2 w m1 c 181 1 vb b.len zs∧DL TT vb.ownBlock b m1 c w zs)∧DW TT g t m hi w ys
end
def Sm (w w':WD)(lo hi:Nat)(g:Option Nat):Prop:=∀c,lo≤c→c<hi→g≠some c→w'.heap[c]? =w.heap[c]?
section
variable {TT:Ex→Int→Prop}{w w':WD}
theorem Sm.sub {lo hi lo' hi':Nat}{g g':Option Nat}(h:Sm w w' lo hi g)(i:lo≤lo')(j:hi'≤hi)(f:∀b,lo'≤b→b<hi'→g'≠some b→g≠some b):Sm w w' lo' hi' g':=fun c a d e=>h c (by omega) (by omega) (f c a d e)
theorem Sm.in {lo hi lo' hi':Nat}{g':Option Nat}(h:Sm w w' lo hi none)(a:lo≤lo')(b:hi'≤hi):Sm w w' lo' hi' g':=h.sub a b (fun _ _ _ _=>by simp)
theorem Sm.off {lo hi lo' hi':Nat}{g g':Option Nat}(h:Sm w w' lo hi g)(c:lo≤lo')(d:hi'≤hi)(a:Off g lo' hi'):Sm w w' lo' hi' g':=h.sub c d (fun b f i _ e=>by have:=a b e;omega)
theorem DE.kp {e:Ex}{lo hi b:Nat}(h:DE TT e lo hi w b)(k:Sm w w' lo hi none):DE TT e lo hi w' b:=h.keep (fun c a d=>k c a d (by simp))
theorem C2.kp {lo hi T a n:Nat}{v:VL}{xs:List VL}(h:C2 w lo hi T a v n xs)(k:Sm w w' lo hi none):C2 w' lo hi T a v n xs:=
 ⟨A5 h.1 (fun c d b _=>k c b (h.2 c d) (by simp)),h.2⟩
theorem C2.wd {lo hi lo' hi' T a n:Nat}{v:VL}{xs:List VL}(h:C2 w lo hi T a v n xs)(c:lo'≤lo)(d:hi≤hi'):C2 w lo' hi' T a v n xs:=⟨A0J h.1 c,fun g b=>Nat.lt_of_lt_of_le (h.2 g b) d⟩
theorem DT.keep {g:Option Nat}:∀{l:List Int}{lo hi:Nat}{xs:List VL},DT TT g l lo hi w xs→Sm w w' lo hi g→DT TT g l lo hi w' xs
 |[],_,_,_,h,_=>h
 |_::_,_,_,_,⟨b0,ys,a,b,m,e1,h1,h2,h3,h4,h5,h6,h7⟩,k=>⟨b0,ys,a,b,m,e1,h1,h2,h3,h4,h5,h6.kp (k.off h1 (by omega) h5),h7.keep (k.sub (by omega) (y0 _) (fun _ _ _ c=>c))⟩
theorem DT.snoc {g:Option Nat}{n:Int}{e a b hi:Nat}(i:DE TT (.lit n) a b w e)(c:a≤b)(d:b≤hi)(f:Off g a b):∀{l:List Int}{lo:Nat}{xs:List VL},lo≤a→DT TT g l lo a w xs→DT TT g (l++[n]) lo hi w (xs++[.pointer (some ⟨e,0,none⟩)])
 |[],lo,xs,h1,h=>by
  rw[show xs=[] from h];exact⟨e,[],a,b,b,rfl,h1,c,y0 _,d,f,i,rfl⟩
 |_::_,lo,xs,h1,⟨v',ys,a',b',m,e1,p1,p2,p3,p4,p5,p6,p7⟩=>by
  rw[e1];exact⟨v',ys++[.pointer (some ⟨e,0,none⟩)],a',b',m,rfl,p1,p2,p3,by omega,p5,p6,DT.snoc i c d f p4 p7⟩
theorem DT.hole {g g':Option Nat}:∀{l:List Int}{lo hi:Nat}{xs:List VL},DT TT g l lo hi w xs→Off g' lo hi→DT TT g' l lo hi w xs
 |[],_,_,_,h,_=>h
 |_::_,_,_,_,⟨v,ys,a,b,m,e1,h1,h2,h3,h4,h5,h6,h7⟩,k=>⟨v,ys,a,b,m,e1,h1,h2,h3,h4,fun x e=>by have:=k x e;omega,h6,h7.hole (fun x e=>by have:=k x e;omega)⟩
theorem DT.wide {g:Option Nat}:∀{l:List Int}{lo hi lo' hi':Nat}{xs:List VL},DT TT g l lo hi w xs→lo'≤lo→hi≤hi'→DT TT g l lo' hi' w xs
 |[],_,_,_,_,_,h,_,_=>h
 |_::_,_,_,_,_,_,⟨v,ys,a,b,m,e1,h1,h2,h3,h4,h5,h6,h7⟩,p,q=>⟨v,ys,a,b,m,e1,by omega,h2,h3,by omega,h5,h6,h7.wide (y0 _) q⟩
mutual
theorem DZ.kp:∀{s:Q3}{lo hi b:Nat},DZ TT s lo hi w b→Sm w w' lo hi none→DZ TT s lo hi w' b
 |.set _ _,_,_,_,⟨h1,h2,bp,be,h3,h4,h5⟩,k=>⟨h1,h2,bp,be,h3.of_block (k _ h1 h2 (by simp)),h4.kp (k.in (by omega) (by omega)),h5.kp (k.in (by omega) (by omega))⟩
 |.setx _ _ _,_,_,_,⟨h1,h2,bp,be,h3,h4,h5⟩,k=>⟨h1,h2,bp,be,h3.of_block (k _ h1 h2 (by simp)),h4.kp (k.in (by omega) (by omega)),h5.kp (k.in (by omega) (by omega))⟩
 |.ife _ _ _,_,_,_,⟨h1,h2,bc,ys,ns,m1,m2,h3,m3,m4,m5,h4,⟨xs,h5,h6⟩,⟨zs,h7,h8⟩⟩,k=>⟨h1,h2,bc,ys,ns,m1,m2,h3.of_block (k _ h1 h2 (by simp)),m3,m4,m5,h4.kp (k.in (by omega) (by omega)),⟨xs,h5.kp (k.in (by omega) (by omega)),h6.keep (k.in (by omega) (by omega))⟩,⟨zs,h7.kp (k.in (by omega) (by omega)),h8.keep (k.in (by omega) (by omega))⟩⟩
 |.cas _ _ _,_,_,_,⟨h1,h2,bc,ys,ns,m1,m2,h3,m3,m4,m5,h4,⟨xs,h5,h6⟩,⟨zs,h7,h8⟩⟩,k=>⟨h1,h2,bc,ys,ns,m1,m2,h3.of_block (k _ h1 h2 (by simp)),m3,m4,m5,h4.kp (k.in (by omega) (by omega)),⟨xs,h5.kp (k.in (by omega) (by omega)),h6.keep (k.in (by omega) (by omega))⟩,⟨zs,h7.kp (k.in (by omega) (by omega)),h8.keep (k.in (by omega) (by omega))⟩⟩
 |.loop _ _ _ _,_,_,_,⟨h1,h2,bc,ys,ns,m1,m2,h3,m3,m4,m5,h4,h5,⟨zs,h7,h8⟩⟩,k=>⟨h1,h2,bc,ys,ns,m1,m2,h3.of_block (k _ h1 h2 (by simp)),m3,m4,m5,h4.kp (k.in (by omega) (by omega)),h5.kp (k.in (by omega) (by omega)),⟨zs,h7.kp (k.in (by omega) (by omega)),h8.keep (k.in (by omega) (by omega))⟩⟩
theorem DL.keep {g:Option Nat}:∀{l:Sl}{lo hi:Nat}{xs:List VL},DL TT g l lo hi w xs→Sm w w' lo hi g→DL TT g l lo hi w' xs
 |.nil,_,_,_,h,_=>h
 |.cons _ _,_,_,_,⟨b0,ys,a,b,m,e1,h1,h2,h3,h4,h5,h6,h7⟩,k=>⟨b0,ys,a,b,m,e1,h1,h2,h3,h4,h5,h6.kp (k.off h1 (by omega) h5),h7.keep (k.sub (by omega) (y0 _) (fun _ _ _ c=>c))⟩
theorem DW.keep {g:Option Nat}:∀{l:Wl}{lo hi:Nat}{xs:List VL},DW TT g l lo hi w xs→Sm w w' lo hi g→DW TT g l lo hi w' xs
 |.nil,_,_,_,h,_=>h
 |.cons _ _ _,_,_,_,⟨vn,vb,ys,a,m1,c,m,e1,h1,h2,h3,h4,h5,h6,⟨us,h7,h7'⟩,⟨zs,h8,h9⟩,h10⟩,k=>⟨vn,vb,ys,a,m1,c,m,e1,h1,h2,h3,h4,h5,h6,⟨us,h7.kp (k.off (by omega) (by omega) (fun x e=>by have:=h6 x e;omega)),h7'.keep (k.off (by omega) (by omega) (fun x e=>by have:=h6 x e;omega))⟩,⟨zs,h8.kp (k.off (by omega) (by omega) (fun x e=>by have:=h6 x e;omega)),h9.keep (k.off (by omega) (by omega) (fun x e=>by have:=h6 x e;omega))⟩,h10.keep (k.sub (by omega) (y0 _) (fun _ _ _ c=>c))⟩
end
theorem DL.snoc {g:Option Nat}{s:Q3}{e a b hi:Nat}(i:DZ TT s a b w e)(d:a≤b)(c:b≤hi)(f:Off g a b):∀{l:Sl}{lo:Nat}{xs:List VL},lo≤a→DL TT g l lo a w xs→DL TT g (l.app (.cons s .nil)) lo hi w (xs++[.pointer (some ⟨e,0,none⟩)])
 |.nil,lo,xs,h1,h=>by
  rw[show xs=[] from h];exact⟨e,[],a,b,b,rfl,h1,d,y0 _,c,f,i,rfl⟩
 |.cons _ _,lo,xs,h1,⟨v',ys,a',b',m,e1,p1,p2,p3,p4,p5,p6,p7⟩=>by
  rw[e1];exact⟨v',ys++[.pointer (some ⟨e,0,none⟩)],a',b',m,rfl,p1,p2,p3,by omega,p5,p6,DL.snoc i d c f p4 p7⟩
theorem DL.hole {g g':Option Nat}:∀{l:Sl}{lo hi:Nat}{xs:List VL},DL TT g l lo hi w xs→Off g' lo hi→DL TT g' l lo hi w xs
 |.nil,_,_,_,h,_=>h
 |.cons _ _,_,_,_,⟨v,ys,a,b,m,e1,h1,h2,h3,h4,h5,h6,h7⟩,k=>⟨v,ys,a,b,m,e1,h1,h2,h3,h4,fun x e=>by have:=k x e;omega,h6,h7.hole (fun x e=>by have:=k x e;omega)⟩
theorem DL.wide {g:Option Nat}:∀{l:Sl}{lo hi lo' hi':Nat}{xs:List VL},DL TT g l lo hi w xs→lo'≤lo→hi≤hi'→DL TT g l lo' hi' w xs
 |.nil,_,_,_,_,_,h,_,_=>h
 |.cons _ _,_,_,_,_,_,⟨v,ys,a,b,m,e1,h1,h2,h3,h4,h5,h6,h7⟩,p,q=>⟨v,ys,a,b,m,e1,by omega,h2,h3,by omega,h5,h6,h7.wide (y0 _) q⟩
theorem DW.snoc {g:Option Nat}{ns:List Int}{bd:Sl}{d i:VL}{a m1 c hi:Nat}{us zs:List VL}(o:C2 w a m1 183 1 d ns.length us)(p:DT TT d.ownBlock ns a m1 w us)(j:C2 w m1 c 181 1 i bd.len zs)(k:DL TT i.ownBlock bd m1 c w zs)(e:a≤m1)(b:m1≤c)(f:c≤hi)(n:Off g a c):∀{l:Wl}{lo:Nat}{xs:List VL},lo≤a→DW TT g l lo a w xs→DW TT g (l.app (.cons ns bd .nil)) lo hi w (xs++[d,i])
 |.nil,lo,xs,k1,h=>by
  rw[show xs=[] from h];exact⟨d,i,[],a,m1,c,c,rfl,k1,e,b,y0 _,f,n,⟨us,o,p⟩,⟨zs,j,k⟩,rfl⟩
 |.cons _ _ _,lo,xs,k1,⟨vn',vb',ys,a',m',c',m,e1,p1,p2,p3,p4,p5,p6,p7,p8,p9⟩=>by
  rw[e1];exact⟨vn',vb',ys++[d,i],a',m',c',m,rfl,p1,p2,p3,p4,by omega,p6,p7,p8,DW.snoc o p j k e b f n p5 p9⟩
theorem DW.hole {g g':Option Nat}:∀{l:Wl}{lo hi:Nat}{xs:List VL},DW TT g l lo hi w xs→Off g' lo hi→DW TT g' l lo hi w xs
 |.nil,_,_,_,h,_=>h
 |.cons _ _ _,_,_,_,⟨vn,vb,ys,a,m1,c,m,e1,h1,h2,h3,h4,h5,h6,h7,h8,h10⟩,k=>⟨vn,vb,ys,a,m1,c,m,e1,h1,h2,h3,h4,h5,fun x e=>by have:=k x e;omega,h7,h8,h10.hole (fun x e=>by have:=k x e;omega)⟩
theorem DW.wide {g:Option Nat}:∀{l:Wl}{lo hi lo' hi':Nat}{xs:List VL},DW TT g l lo hi w xs→lo'≤lo→hi≤hi'→DW TT g l lo' hi' w xs
 |.nil,_,_,_,_,_,h,_,_=>h
 |.cons _ _ _,_,_,_,_,_,⟨vn,vb,ys,a,m1,c,m,e1,h1,h2,h3,h4,h5,h6,h7,h8,h10⟩,p,q=>⟨vn,vb,ys,a,m1,c,m,e1,by omega,h2,h3,h4,by omega,h6,h7,h8,h10.wide (y0 _) q⟩
end
theorem A8.sm {bp:Nat}{w w':WD}(h:A8 bp w w'){lo hi:Nat}(b:bp<lo)(d:hi≤w.heap.size)(g:Option Nat):Sm w w' lo hi g:=fun c a e _=>h.block c (by omega) (by omega)
theorem A1S {w:WD}{g i lo hi:Nat}{v:VL}(h:g<lo∨hi≤g)(x:Option Nat):Sm w (w.setCell ⟨g,i,none⟩ v) lo hi x:=fun c a b _=>Below.heap_setCell _ _ _ _ (show c≠g by omega)
end
section
def yQ (sq:Nat→Option (Sl×Nat))(d:Int)(p:Nat×Int):Option (Nat×Int):=(sq p.1).map (fun q=>(q.2,max p.2 (d+H8 q.1)))
def DLU (r:Option (Sl×Nat))(lo hi:Nat)(w:WD)(a:Option Addr)(n b:Nat):Prop:=∃xs,C2 w lo hi 181 1 (.slice a n b) n xs∧∀l k',r=some (l,k')→n=l.len∧DL TA (Value.slice a n b).ownBlock l lo hi w xs
theorem DLU.kp {r:Option (Sl×Nat)}{lo hi:Nat}{w w':WD}{a:Option Addr}{n b:Nat}(h:DLU r lo hi w a n b)(k:Sm w w' lo hi none):DLU r lo hi w' a n b:=by obtain⟨xs,d,c⟩:=h;exact⟨xs,d.kp k,fun l k' e=>⟨(c l k' e).1,(c l k' e).2.keep (k.in (y0 _) (y0 _))⟩⟩
def SlD (L:LB)(sq:Nat→Option (Sl×Nat))(f:Nat):Prop:=∀{B bp:Nat}{tv:VL}{a:Option (Nat×Int)}{d:Nat}{w:WD},Du B bp tv L a w→(∀p,a=some p→(d:Int)≤p.2∧L.length<p.1+f)→d+f≤5000→∀(R:RP),(∀w' b n c,Du B bp tv L (a.bind (yQ sq d)) w'→A8 bp w w'→DLU (a.bind (fun p=>sq p.1)) w.heap.size w'.heap.size w' b n c→(∀p l k',a=some p→sq p.1=some (l,k')→p.1≤k')→R (.returned (.slice b n c)) w')→Calls Tryz.prog 88 #[.pointer (some ⟨bp,0,none⟩),.int .i64 (d:Int)] w R
def stO (k:Nat)(d:Option Addr)(nm:BA)(a b:Option Addr)(c ns e:VL):Obj:=Obj.cells #[.int .u8 (k:Int),.pointer d,.string nm,.pointer a,.pointer b,c,ns,e] 186
section
variable {B bp:Nat}{tv:VL}{L:LB}{w:WD}
theorem B5E {k d:Nat}{D:Int}(h:Du B bp tv L (some (k,D)) w)(hn:O7 (A0 L k)=true)(hd1:(d:Int)≤D)(hdf:d≤5000)(R:RP)(u:∀w' b,Du B bp tv L ((A7O L k).map (fun q=>(q.2,max D ((d:Int)+H7 q.1)))) w'→A8 bp w w'→w.heap.size≤b→b<w'.heap.size→(∀s k',A7O L k=some (s,k')→k<k'∧DZ TA s w.heap.size w'.heap.size w' b)→R (.returned (.pointer (some ⟨b,0,none⟩))) w'):Calls Tryz.prog 141 #[.pointer (some ⟨bp,0,none⟩),.int .i64 (d:Int)] w R:=by
 have hbB:=h.blt;have hle:=h.le;have hkL:=h.kle;have hsm:=h.sm;simp only at hkL;have K1:((K7 (A0 L k):Int)==110)=true:=(by rw[A65.2 hn];rfl);replace u:=hd u;go_enter Tryz.func141,Tryz.ntmps141;go_wp2_with (fail);refine A1z h _ ?_;rw[show lkS L (some (k,D))=A0 L k from rfl];intro w1 h1 Y;unfold A2x;have hz1:=Y.size;have hA:=h1.alloc (Obj.cells #[.int .u8 (K7 (A0 L k):Int),.string (A0 L k)] 176);have oA:=(A8.of_below (b:=bp) Y).alloc (Obj.cells #[.int .u8 (K7 (A0 L k):Int),.string (A0 L k)] 176);have hzA:w1.heap.size+1≤(w1.alloc (Obj.cells #[.int .u8 (K7 (A0 L k):Int),.string (A0 L k)] 176)).heap.size:=(by simp);replace h1:=hd h1;replace Y:=hd Y;generalize K7 (A0 L k)=K at*;go_wp2_with (fail);refine B1M (exD L (L.length+1)) hA hn hd1 (by omega) (by omega) _ ?_;obtain⟨I,t⟩:∃r,r=plQ L (L.length+1) k:=⟨_,rfl⟩;rw[←t];intro o g h2 o2 hp1 hp2 F;have oB:=oA.step o2;have hz2:=o2.size;have h3:=h2.alloc (stO 61 (some ⟨g,0,none⟩) ⟨#[]⟩ none none (.slice none 0 0) (.slice none 0 0) (.slice none 0 0));have oC:=oB.alloc (stO 61 (some ⟨g,0,none⟩) ⟨#[]⟩ none none (.slice none 0 0) (.slice none 0 0) (.slice none 0 0));have X:(o.alloc (stO 61 (some ⟨g,0,none⟩) ⟨#[]⟩ none none (.slice none 0 0) (.slice none 0 0) (.slice none 0 0))).heap[o.heap.size]? =some (stO 61 (some ⟨g,0,none⟩) ⟨#[]⟩ none none (.slice none 0 0) (.slice none 0 0) (.slice none 0 0)):=A9 rfl;have hz3:o.heap.size+1≤(o.alloc (stO 61 (some ⟨g,0,none⟩) ⟨#[]⟩ none none (.slice none 0 0) (.slice none 0 0) (.slice none 0 0))).heap.size:=(by simp);have m:∀x k',I=some (x,k')→k<k'∧DE TA (mkE (A0 L k) x) w.heap.size o.heap.size (o.alloc (stO 61 (some ⟨g,0,none⟩) ⟨#[]⟩ none none (.slice none 0 0) (.slice none 0 0) (.slice none 0 0))) g:=fun x k' e=>⟨(F x k' e).1,((F x k' e).2.keep (fun c _ c2=>Below.heap_alloc _ _ _ c2)).wide (by omega) (y0 _)⟩;replace m:=hd m;replace h2:=hd h2;clear o2 oA oB F hA;go_wp2_with (fail);refine P3 (s:=wAS) h3 (by decide) (.inr (by kernel_rfl)) _ ?_;obtain⟨V,J⟩:∃s,s=(I.map (fun q=>(q.2,max D ((d:Int)+C5 (mkE (A0 L k) q.1))))).bind (yS L wAS):=⟨_,rfl⟩;rw[←J];intro w4 h4 S;have oD:=oC.step S;have hz4:=S.size;have U:=(S.block o.heap.size (by omega) (by omega)).trans X;have l:∀x k',I=some (x,k')→k<k'∧DE TA (mkE (A0 L k) x) w.heap.size o.heap.size w4 g:=fun x k' e=>⟨(m.out x k' e).1,(m.out x k' e).2.only S (by omega) (by omega)⟩;replace l:=hd l;clear S oC X h3 m;generalize o.heap.size=b at*;have hk4:∀p,V=some p→(d:Int)≤p.2∧L.length<p.1+(L.length+1):=fun p e=>by rw[J] at e;obtain⟨p1,H,O⟩:=C8 e;obtain⟨q,y3,y4⟩:=x0.1 H;have z:=Q2.1 O;rw[←y4] at z;simp only at z;omega
 have hzb:b<w4.heap.size:=(by omega);go_wp2_with (fail);refine exD L (L.length+1) h4 hk4 (by omega) _ ?_;intro w5 y h5 Q hb1 hb2 A;have oE:=oD.step Q;have hz5:=Q.size;have n:=(Q.block b (by omega) (by omega)).trans U;have a3:=A1 (i:=3) n rfl;have f3:=B2 (i:=3) n;have hzb5:b<w5.heap.size:=(by omega);have h6:=hd (h5.setNew (show B≤b by omega) 3 (.pointer (some ⟨y,0,none⟩)));have T:=hd (A4 (i:=3) n (.pointer (some ⟨y,0,none⟩)));have o6:=hd (oE.setCell (a:=⟨b,3,none⟩) (.inr (by show w.heap.size≤b;omega)) (.pointer (some ⟨y,0,none⟩)));have E:∀x k',I=some (x,k')→k<k'∧DE TA (mkE (A0 L k) x) w.heap.size b (w5.setCell ⟨b,3,none⟩ (.pointer (some ⟨y,0,none⟩))) g:=fun x k' e=>⟨(l.out x k' e).1,((l.out x k' e).2.only Q (by omega) (by omega)).set (.inr (y0 _)) 3 _⟩;have G:∀p e k',V=some p→qE L (L.length+1) p.1=some (e,k')→p.1<k'∧DE TA e w4.heap.size w5.heap.size (w5.setCell ⟨b,3,none⟩ (.pointer (some ⟨y,0,none⟩))) y:=fun p e k' H O=>⟨(A p e k' H O).1,(A p e k' H O).2.set (.inl hzb) 3 _⟩;have C:A7O L k=I.bind (fun x=>(xS L wAS x.2).bind (fun N=>(qE L (L.length+1) N).bind (fun e=>some (mkS (A0 L k) x.1 e.1,e.2)))):=(by rw[t];rfl);rw[C] at u;replace C:=hd C;replace E:=hd E;replace G:=hd G;replace h5:=hd h5;replace n:=hd n;replace J:=hd J;replace t:=hd t;clear Q oD oE A U h4 l;go_wp2;refine A6 (u.out _ b ?_ o6.out (by omega) (by simp;omega) (fun s k' e=>?_)) rfl
 ·have f:=h6.out;have j:=J.out;cases hr:I with
  |none=>rw[hr] at j;rw[j] at f;exact f
  |some x=>
   rw[hr] at j;simp only[y1,z0] at j ⊢;cases M:xS L wAS x.2 with
   |none=>
    have:V=none:=(by rw[j];cases hh:yS L wAS (x.2,max D ((d:Int)+C5 (mkE (A0 L k) x.1))) with|none=>rfl|some v=>rw[(Q2.1 hh).1] at M;cases M);rw[this] at f;exact f
   |some N=>
    have:V=some (N,max D ((d:Int)+C5 (mkE (A0 L k) x.1))):=(by rw[j];exact Q2.2 ⟨M,rfl⟩);rw[this] at f;simp only[z0,yE] at f ⊢;cases hq:qE L (L.length+1) N with
    |none=>rw[hq] at f;exact f
    |some q=>
     rw[hq] at f;simp only[z0,y1] at f ⊢;have n1:=B4 q.1;have em:max (max D ((d:Int)+C5 (mkE (A0 L k) x.1))) ((d:Int)+C5 q.1)=max D ((d:Int)+H7 (mkS (A0 L k) x.1 q.1)):=by
      cases x.1 with
      |none=>simp only[mkE,mkS,C5,H7];omega
      |some i=>have:=B4 i;simp only[mkE,mkS,C5,H7];omega
     rw[em] at f;exact f
 ·obtain⟨x,H,O⟩:=C8 e;obtain⟨N,y3,y4⟩:=C8 O;obtain⟨q,y5,P⟩:=C8 y4;injection P with P;injection P with P y7;obtain⟨z1,Z⟩:=E.out x.1 x.2 H;have hs4:V=some (N,max D ((d:Int)+C5 (mkE (A0 L k) x.1))):=(by rw[J.out,H];exact Q2.2 ⟨y3,rfl⟩);obtain⟨z3,z4⟩:=G.out _ q.1 q.2 hs4 y5;have z5:=(C9 y3).2;simp only at z3;refine⟨by omega,?_⟩;rw[←P];cases M:x.1 with
  |none=>
   rw[M] at Z;exact⟨by omega,by simp;omega,g,y,R5 T.out rfl (X6 rfl rfl rfl rfl rfl rfl rfl rfl),Z,z4.wide (by omega) (by simp)⟩
  |some i=>
   rw[M] at Z;exact⟨by omega,by simp;omega,g,y,R5 T.out rfl (X6 rfl rfl rfl rfl rfl rfl rfl rfl),Z,z4.wide (by omega) (by simp)⟩
end
end
section
theorem A0P {L:LB}{s:BA}{k:Nat}{D:Int}(h:xS L s k=none):yS L s (k,D)=none:=by
 cases a:yS L s (k,D) with
 |none=>rfl
 |some v=>rw[(Q2.1 a).1] at h;cases h
theorem B5j {L:LB}{k:Nat}{D:Int}(h:xN L k=none):yK L 110 (k,D)=none:=by
 cases a:yK L 110 (k,D) with
 |none=>rfl
 |some v=>rw[(A8s.1 a).1] at h;cases h
theorem B7y {L:LB}{sq:Nat→Option (Sl×Nat)}{k d:Nat}{D:Int}{O v P x C p R U:Option (Nat×Int)}(u:O=yK L 110 (k,max D ((d:Int)+1)))(m:v=O.bind (yS L wAS))(o:P=v.bind (yL L))(j:x=P.bind (yS L wTO))(i:C=x.bind (yL L))(c:p=C.bind (yS L wDO))(a:R=p.bind (yQ sq ((d+1:Nat):Int)))(Z:U=R.bind (yS L K5)):(A43 L sq k).map (fun q=>(q.2,max D ((d:Int)+H7 q.1)))=U∧∀s k',A43 L sq k=some (s,k')→∃S g y T f z A l Y,v=some S∧K3 L 110 (some (k,max D ((d:Int)+1)))=A0 L k∧D2 L S.1=some (g,y)∧x=some T∧D2 L T.1=some (f,z)∧p=some A∧sq A.1=some (l,Y)∧s=.loop (A0 L k) g f l∧k<A.1∧k'=Y+1:=by
 subst Z;unfold A43;cases E:xN L k with
 |none=>
  rw[B5j E] at u;rw[a,c,i,j,o,m,u];exact⟨rfl,fun e k' h=>by cases h⟩
 |some y=>
  have B:O=some (y,max D ((d:Int)+1)):=(by rw[u];exact A8s.2 ⟨E,rfl⟩);have G:K3 L 110 (some (k,max D ((d:Int)+1)))=A0 L k:=(by unfold K3;simp only[z0];rw[←u,B];rfl);have g2:=(A17 E).2;simp only[z0];cases N:xS L wAS y with
  |none=>
   rw[B] at m;simp only[z0] at m;rw[A0P N] at m;rw[a,c,i,j,o,m];exact⟨rfl,fun e k' h=>by cases h⟩
  |some z=>
   have K:v=some (z,max D ((d:Int)+1)):=(by rw[m,B];exact Q2.2 ⟨N,rfl⟩);have g3:=(C9 N).2;simp only[z0];cases t:D2 L z with
   |none=>
    rw[K] at o;simp only[z0,yL,t,x1] at o;rw[a,c,i,j,o];exact⟨rfl,fun e k' h=>by cases h⟩
   |some g=>
    have X:P=some (g.2,max D ((d:Int)+1)):=(by rw[o,K];simp only[z0,yL,t,y1]);have g4:=O1 (n:=g.1) (k':=g.2) t;simp only[z0];cases Q:xS L wTO g.2 with
    |none=>
     rw[X] at j;simp only[z0] at j;rw[A0P Q] at j;rw[a,c,i,j];exact⟨rfl,fun e k' h=>by cases h⟩
    |some k5=>
     have J:x=some (k5,max D ((d:Int)+1)):=(by rw[j,X];exact Q2.2 ⟨Q,rfl⟩);have g5:=(C9 Q).2;simp only[z0];cases r:D2 L k5 with
     |none=>
      rw[J] at i;simp only[z0,yL,r,x1] at i;rw[a,c,i];exact⟨rfl,fun e k' h=>by cases h⟩
     |some f=>
      have V:C=some (f.2,max D ((d:Int)+1)):=(by rw[i,J];simp only[z0,yL,r,y1]);have g6:=O1 (n:=f.1) (k':=f.2) r;simp only[z0];cases H:xS L wDO f.2 with
      |none=>
       rw[V] at c;simp only[z0] at c;rw[A0P H] at c;rw[a,c];exact⟨rfl,fun e k' h=>by cases h⟩
      |some k7=>
       have F:p=some (k7,max D ((d:Int)+1)):=(by rw[c,V];exact Q2.2 ⟨H,rfl⟩);have g7:=(C9 H).2;simp only[z0];cases M:sq k7 with
       |none=>
        rw[F] at a;simp only[z0,yQ,M,x1] at a;rw[a];exact⟨rfl,fun e k' h=>by cases h⟩
       |some b=>
        have E8:R=some (b.2,max (max D ((d:Int)+1)) (((d+1:Nat):Int)+H8 b.1)):=(by rw[a,F];simp only[z0,yQ,M,y1]);have n8:=O2 b.1;rw[E8];simp only[z0];cases I:xS L K5 b.2 with
        |none=>
         rw[A0P I];exact⟨rfl,fun e k' h=>by cases h⟩
        |some k9=>
         refine⟨?_,fun s k' h=>⟨_,g.1,g.2,_,f.1,f.2,_,b.1,b.2,K,G,t,J,r,F,M,?_,by simp only;omega,?_⟩⟩
         ·simp only[z0,y1];symm;refine Q2.2 ⟨I,?_⟩;simp only[H7];omega
         ·injection h with h;injection h with h _;exact h.symm
         ·injection h with h;injection h with _ h;rw[←h];exact (C9 I).2
theorem B9s:wIF.toList=[73,70]:=by kernel_rfl
theorem B4r:J5.toList=[67,65,83,69]:=by kernel_rfl
theorem B71:X3.toList=[70,79,82]:=by kernel_rfl
section
variable {B bp:Nat}{tv:VL}{L:LB}{w:WD}
theorem B5J {k d f:Nat}{D:Int}{sq:Nat→Option (Sl×Nat)}(hS:SlD L sq f)(h:Du B bp tv L (some (k,D)) w)(hT:B6 (A0 L k) X3=true)(hk:L.length<k+1+f)(hdf:d+1+f≤5000)(R:RP)(P:∀w' b,Du B bp tv L ((A43 L sq (k+1)).map (fun q=>(q.2,max D ((d:Int)+H7 q.1)))) w'→A8 bp w w'→w.heap.size≤b→b<w'.heap.size→(∀s k',A43 L sq (k+1)=some (s,k')→k<k'∧DZ TA s w.heap.size w'.heap.size w' b)→R (.returned (.pointer (some ⟨b,0,none⟩))) w'):Calls Tryz.prog 141 #[.pointer (some ⟨bp,0,none⟩),.int .i64 (d:Int)] w R:=by
 have hbB:=h.blt;have hle:=h.le;have hkL:=h.kle;have hsm:=h.sm;simp only at hkL;have et:=U3 hT;have hend:k<L.length:=by
  by_cases c:k<L.length
  ·exact c
  ·rw[G7 c] at et;exact absurd (congrArg ByteArray.size et) (by decide)
 have K1:((K7 X3:Int)==110)=false:=(by kernel_rfl);have T1:(X3.toList==[73,70])=false:=(by kernel_rfl);have T2:(X3.toList==[67,65,83,69])=false:=(by kernel_rfl);obtain⟨s2,e2⟩:∃s,s=yK L 110 (k+1,max D ((d:Int)+1)):=⟨_,rfl⟩;obtain⟨s3,e3⟩:∃s,s=s2.bind (yS L wAS):=⟨_,rfl⟩;obtain⟨s4,e4⟩:∃s,s=s3.bind (yL L):=⟨_,rfl⟩;obtain⟨s5,e5⟩:∃s,s=s4.bind (yS L wTO):=⟨_,rfl⟩;obtain⟨s6,e6⟩:∃s,s=s5.bind (yL L):=⟨_,rfl⟩;obtain⟨s7,e7⟩:∃s,s=s6.bind (yS L wDO):=⟨_,rfl⟩;obtain⟨s8,e8⟩:∃s,s=s7.bind (yQ sq ((d+1:Nat):Int)):=⟨_,rfl⟩;obtain⟨s9,e9⟩:∃s,s=s8.bind (yS L K5):=⟨_,rfl⟩;obtain⟨Z,hS2⟩:=B7y e2 e3 e4 e5 e6 e7 e8 e9;rw[Z] at P;have hk7:∀p,s7=some p→((d+1:Nat):Int)≤p.2∧L.length<p.1+f:=fun p e=>by rw[e7] at e;obtain⟨p6,j,m⟩:=C8 e;rw[e6] at j;obtain⟨p5,y3,y4⟩:=C8 j;rw[e5] at y3;obtain⟨p4,y5,y6⟩:=C8 y3;rw[e4] at y5;obtain⟨p3,y7,y8⟩:=C8 y5;rw[e3] at y7;obtain⟨p2,y9,y10⟩:=C8 y7;rw[e2] at y9;have z1:=A8s.1 y9;have z2:=Q2.1 y10;unfold yL at y8 y4;obtain⟨q1,z3,z4⟩:=x0.1 y8;obtain⟨q2,z5,z6⟩:=x0.1 y4;have z7:=Q2.1 y6;have z8:=Q2.1 m;have g1:=(A17 z1.1).2;have g2:=(C9 z2.1).2;have g3:=O1 (n:=q1.1) (k':=q1.2) z3;have g4:=(C9 z7.1).2;have g5:=O1 (n:=q2.1) (k':=q2.2) z5;have g6:=(C9 z8.1).2;rw[←z4] at g4 z7;rw[←z6] at g6 z8;simp only at g1 g2 g3 g4 g5 g6 z1 z2 z7 z8;omega
 replace Z:=hd Z;replace hS2:=hd hS2;replace P:=hd P;go_enter Tryz.func141,Tryz.ntmps141;go_wp2_with (fail);refine A1z h _ ?_;rw[show lkS L (some (k,D))=A0 L k from rfl,et];intro w1 h1 b1;unfold A2x;have hz1:=b1.size;have c1:w1.cell? ⟨bp,1,none⟩=some (.int .i64 (k:Int)):=h1.1.row.cell (i:=1) (by omega);have f1:=h1.1.row.frozen 1;have lb:=h1.1.row.lt;have jk:IntKind.i64.wrap ((k:Int)+1)=(k:Int)+1:=x2 _ (by omega);have jd:IntKind.i64.wrap ((d:Int)+1)=(d:Int)+1:=x2 _ (by omega);have hN:=(h1.next (p:=(k,D)) hend).alloc (Obj.cells #[.int .u8 (K7 X3:Int),.string X3] 176);have oN:=((A8.of_below (b:=bp) b1).setCell (a:=⟨bp,1,none⟩) (.inl rfl) (.int .i64 ((k:Int)+1))).alloc (Obj.cells #[.int .u8 (K7 X3:Int),.string X3] 176);have hzT:w1.heap.size+1≤((w1.setCell ⟨bp,1,none⟩ (.int .i64 ((k:Int)+1))).alloc (Obj.cells #[.int .u8 (K7 X3:Int),.string X3] 176)).heap.size:=(by simp);have hTk:((w1.setCell ⟨bp,1,none⟩ (.int .i64 ((k:Int)+1))).alloc (Obj.cells #[.int .u8 (K7 X3:Int),.string X3] 176)).heap[w1.heap.size]? =some (.cells #[.int .u8 (K7 X3:Int),.string X3] 176):=A9 (by simp);replace h1:=hd h1;replace b1:=hd b1;replace et:=hd et;generalize K7 X3=K at*;go_wp2_with (fail);refine A3A hN _ _ ?_;simp only[y1];intro w2 h2 o2;have oB:=oN.step o2;have hz2:=o2.size;have hT2:=(o2.block w1.heap.size (by omega) (by omega)).trans hTk;have q1:=A1 (i:=1) hT2 rfl;have h3:=h2.alloc (stO 102 none ⟨#[]⟩ none none (.slice none 0 0) (.slice none 0 0) (.slice none 0 0));have oC:=oB.alloc (stO 102 none ⟨#[]⟩ none none (.slice none 0 0) (.slice none 0 0) (.slice none 0 0));have hx3:(w2.alloc (stO 102 none ⟨#[]⟩ none none (.slice none 0 0) (.slice none 0 0) (.slice none 0 0))).heap[w2.heap.size]? =some (stO 102 none ⟨#[]⟩ none none (.slice none 0 0) (.slice none 0 0) (.slice none 0 0)):=A9 rfl;have hz3:w2.heap.size+1≤(w2.alloc (stO 102 none ⟨#[]⟩ none none (.slice none 0 0) (.slice none 0 0) (.slice none 0 0))).heap.size:=(by simp);have lz2:w1.heap.size<w2.heap.size:=(by omega);replace hT2:=hd hT2;replace h2:=hd h2;clear o2 oN oB hTk hN;go_wp2_with (fail);refine A7w (c:=110) h3 (by omega) _ ?_;simp only[z0];rw[←e2];intro w4 h4 o4;have oD:=oC.step o4;have hz4:=o4.size;have N:=(o4.block w2.heap.size (by omega) (by omega)).trans hx3;generalize K3 L 110 (some (k+1,max D ((d:Int)+1)))=nm at*;generalize w2.heap.size=b at*;clear o4 oC hx3 h3;have a2:=A1 (i:=2) N rfl;have f2:=B2 (i:=2) N;have hzb4:b<w4.heap.size:=(by omega);have h5:=hd (h4.setNew (show B≤b by omega) 2 (.string nm));have hx5:=hd (A4 (i:=2) N (.string nm));have o5:=hd (oD.setCell (a:=⟨b,2,none⟩) (.inr (by show w.heap.size≤b;omega)) (.string nm));replace h4:=hd h4;replace N:=hd N;clear oD;go_wp2_with (fail);refine P3 (s:=wAS) h5.out (by decide) (.inr (by kernel_rfl)) _ ?_;rw[←e3];intro w6 h6 o6;have hz6:=o6.size;rw[z9] at hz6;have hx6:=(o6.block b (by rw[z9];omega) (by omega)).trans hx5.out;have oE:=o5.out.step o6;clear o6 o5 hx5 h5;go_wp2_with (fail);refine B3B h6 _ ?_;rw[←e4];intro w7 ba h7 o7 ha1 ha2 O;have hz7:=o7.size;have F:=(o7.block b (by omega) (by omega)).trans hx6;have oF:=oE.step o7;have a3:=A1 (i:=3) F rfl;have f3:=B2 (i:=3) F;have hzb7:b<w7.heap.size:=(by omega);have h8:=hd (h7.setNew (show B≤b by omega) 3 (.pointer (some ⟨ba,0,none⟩)));have hx8:=hd (A4 (i:=3) F (.pointer (some ⟨ba,0,none⟩)));have o8:=hd (oF.setCell (a:=⟨b,3,none⟩) (.inr (by show w.heap.size≤b;omega)) (.pointer (some ⟨ba,0,none⟩)));replace h7:=hd h7;replace F:=hd F;replace O:=hd O;clear o7 oE oF h6 hx6;go_wp2_with (fail);refine P3 (s:=wTO) h8.out (by decide) (.inl (by kernel_rfl)) _ ?_;rw[←e5];intro w9 h9 o9;have hz9:=o9.size;rw[z9] at hz9;have hx9:=(o9.block b (by rw[z9];omega) (by omega)).trans hx8.out;have oG:=o8.out.step o9;have Q:∀p n k',s3=some p→D2 L p.1=some (n,k')→DE TA (.lit n) w6.heap.size w7.heap.size w9 ba:=fun p n k' j m=>((O.out p n k' j m).set (.inl (by omega)) 3 _).only o9 (by omega) (by rw[z9];exact y0 _);replace Q:=hd Q;clear o9 o8 hx8 h8 O;go_wp2_with (fail);refine B3B h9 _ ?_;rw[←e6];intro J bb ab I hb1 hb2 S;have hz10:=I.size;have o:=(I.block b (by omega) (by omega)).trans hx9;have oH:=oG.step I;have y:∀p n k',s3=some p→D2 L p.1=some (n,k')→DE TA (.lit n) w6.heap.size w7.heap.size J ba:=fun p n k' j m=>(Q.out p n k' j m).only I (by omega) (by omega);replace y:=hd y;have a4:=A1 (i:=4) o rfl;have f4:=B2 (i:=4) o;have hzb10:b<J.heap.size:=(by omega);have h11:=hd (ab.setNew (show B≤b by omega) 4 (.pointer (some ⟨bb,0,none⟩)));have T:=hd (A4 (i:=4) o (.pointer (some ⟨bb,0,none⟩)));have o11:=hd (oH.setCell (a:=⟨b,4,none⟩) (.inr (by show w.heap.size≤b;omega)) (.pointer (some ⟨bb,0,none⟩)));replace ab:=hd ab;replace o:=hd o;replace S:=hd S;clear I oG oH h9 hx9 Q;go_wp2_with (fail);refine P3 (s:=wDO) h11.out (by decide) (.inl (by kernel_rfl)) _ ?_;rw[←e7];intro aa h12 E;have hz12:=E.size;rw[z9] at hz12;have X:=(E.block b (by rw[z9];omega) (by omega)).trans T.out;have oI:=o11.out.step E;have u:∀p n k',s3=some p→D2 L p.1=some (n,k')→DE TA (.lit n) w6.heap.size w7.heap.size aa ba:=fun p n k' j m=>((y.out p n k' j m).set (.inl (by omega)) 4 _).only E (by omega) (by rw[z9];omega);have z:∀p n k',s5=some p→D2 L p.1=some (n,k')→DE TA (.lit n) w9.heap.size J.heap.size aa bb:=fun p n k' j m=>((S.out p n k' j m).set (.inl (by omega)) 4 _).only E (by omega) (by rw[z9];exact y0 _);replace u:=hd u;replace z:=hd z;clear E o11 T h11 S y
 go_wp2_with (fail);rw[show ((d:Int)+1)=((d+1:Nat):Int) by omega];refine hS h12 hk7 (by omega) _ ?_;rw[←e8];intro w13 ao n cp h13 C U M;have hz13:=C.size;have r:=(C.block b (by omega) (by omega)).trans X;have oJ:=oI.step C;have x:∀p n k',s3=some p→D2 L p.1=some (n,k')→DE TA (.lit n) w6.heap.size w7.heap.size w13 ba:=fun p n k' j m=>(u.out p n k' j m).only C (by omega) (by omega);have A:∀p n k',s5=some p→D2 L p.1=some (n,k')→DE TA (.lit n) w9.heap.size J.heap.size w13 bb:=fun p n k' j m=>(z.out p n k' j m).only C (by omega) (by omega);replace x:=hd x;replace A:=hd A;have a5:=A1 (i:=5) r rfl;have f5:=B2 (i:=5) r;have hzb13:b<w13.heap.size:=(by omega);have h14:=hd (h13.setNew (show B≤b by omega) 5 (.slice ao n cp));have V:=hd (A4 (i:=5) r (.slice ao n cp));have o14:=hd (oJ.setCell (a:=⟨b,5,none⟩) (.inr (by show w.heap.size≤b;omega)) (.slice ao n cp));have Y:=hd (U.kp (A1S (g:=b) (i:=5) (v:=.slice ao n cp) (.inl (by omega)) none));replace h13:=hd h13;replace r:=hd r;replace M:=hd M;clear C oI oJ h12 X u z U;go_wp2_with (fail);refine P3 (s:=K5) h14.out (by decide) (.inl (by kernel_rfl)) _ ?_;rw[←e9];intro w15 h15 t;have hz15:=t.size;rw[z9] at hz15;have hx15:=hd ((t.block b (by rw[z9];omega) (by omega)).trans V.out);have oK:=hd (o14.out.step t);have H:∀p n k',s3=some p→D2 L p.1=some (n,k')→DE TA (.lit n) w6.heap.size w7.heap.size w15 ba:=fun p n k' j m=>((x.out p n k' j m).set (.inl (by omega)) 5 _).only t (by omega) (by rw[z9];omega);have G:∀p n k',s5=some p→D2 L p.1=some (n,k')→DE TA (.lit n) w9.heap.size J.heap.size w15 bb:=fun p n k' j m=>((A.out p n k' j m).set (.inl (by omega)) 5 _).only t (by omega) (by rw[z9];omega);have hu15:=hd (Y.out.kp (t.sm (by omega) (by rw[z9];exact y0 _) none));replace H:=hd H;replace G:=hd G;replace h15:=hd h15;replace e2:=hd e2;replace e3:=hd e3;replace e4:=hd e4;replace e5:=hd e5;replace e6:=hd e6;replace e7:=hd e7;replace e8:=hd e8;replace e9:=hd e9;clear t o14 V h14 x A Y;go_wp2;refine A6 (P.out _ b h15.out oK.out (by omega) (by omega) (fun s k' e=>?_)) rfl;obtain⟨p3,n1,k1,p5,n2,k2,p7,l,k3,j,m,y3,y4,y5,y6,y7,rfl,y9,y10⟩:=hS2.out s k' e;subst m;have y11:=M.out p7 l k3 y6 y7;obtain⟨xs,z1,z2⟩:=hu15.out;obtain⟨z3,z4⟩:=z2 l k3 (by rw[y6];exact y7);subst z3;exact⟨by omega,by omega,by omega,ba,bb,.slice ao l.len cp,w9.heap.size,aa.heap.size,R5 hx15.out rfl (X6 rfl rfl rfl rfl rfl rfl rfl rfl),by omega,by omega,by omega,(H.out p3 n1 k1 j y3).wide (by omega) (by omega),(G.out p5 n2 k2 y4 y5).wide (y0 _) (by omega),⟨xs,z1.wd (y0 _) (by omega),z4.wide (y0 _) (by omega)⟩⟩
end
end
section
def yO2 (L:LB)(sq:Nat→Option (Sl×Nat))(d:Int)(p:Nat×Int):Option (Nat×Int):=(qO L sq p.1).map (fun q=>(q.2,max p.2 (d+H8 q.1)))
theorem A9F {L:LB}{sq:Nat→Option (Sl×Nat)}{d:Int}{p:Nat×Int}(h:B6 (A0 L p.1) A1A=true):yO2 L sq d p=(yQ sq d (p.1+1,p.2)).bind (yS L K5)∧∀o k',qO L sq p.1=some (o,k')→∃b,sq (p.1+1)=some (o,b)∧k'=b+1:=by
 unfold yO2 qO qOE yQ;rw[if_pos h];simp only;cases c:sq (p.1+1) with
 |none=>exact⟨rfl,fun o k' e=>by cases e⟩
 |some q=>
  simp only[z0,y1];cases a:xS L K5 q.2 with
  |none=>rw[A0P a];exact⟨rfl,fun o k' e=>by cases e⟩
  |some b=>
   refine⟨?_,fun o k' e=>⟨q.2,?_,?_⟩⟩
   ·symm;exact Q2.2 ⟨a,rfl⟩
   ·injection e with e;injection e with e _;rw[←e]
   ·injection e with e;injection e with _ e;rw[←e];exact (C9 a).2
theorem A6u {L:LB}{sq:Nat→Option (Sl×Nat)}{d:Int}{p:Nat×Int}(h:B6 (A0 L p.1) A1A=false)(hd:d≤p.2):yO2 L sq d p=yS L K5 p∧∀o k',qO L sq p.1=some (o,k')→o=.nil∧k'=p.1+1:=by
 unfold yO2 qO qOE;rw[h];simp only[Bool.false_eq_true,if_false,z0];cases a:xS L K5 p.1 with
 |none=>rw[show yS L K5 p=none from A0P a];exact⟨rfl,fun o k' e=>by cases e⟩
 |some k2=>
  refine⟨?_,fun o k' e=>?_⟩
  ·symm;refine Q2.2 ⟨a,?_⟩;simp only[H8];omega
  ·injection e with e;injection e with b c;exact⟨b.symm,by rw[←c];exact (C9 a).2⟩
theorem B6Q {L:LB}{sq:Nat→Option (Sl×Nat)}{k d:Nat}{D:Int}{u f l p:Option (Nat×Int)}(g:u=yE L (L.length+1) ((d+1:Nat):Int) (k,max D ((d:Int)+1)))(b:f=u.bind (yS L A1B))(a:l=f.bind (yQ sq ((d+1:Nat):Int)))(z:p=l.bind (yO2 L sq ((d+1:Nat):Int))):(A5h L sq k).map (fun q=>(q.2,max D ((d:Int)+H7 q.1)))=p∧∀s k',A5h L sq k=some (s,k')→∃c y i t v m o,qE L (L.length+1) k=some (c,y)∧f=some i∧i.1=y+1∧sq i.1=some (t,v)∧l=some m∧m.1=v∧qO L sq m.1=some (o,k')∧s=.ife c t o:=by
 subst z;unfold A5h;cases x:qE L (L.length+1) k with
 |none=>
  simp only[yE,x,x1] at g;rw[a,b,g];exact⟨rfl,fun e k' h=>by cases h⟩
 |some c=>
  simp only[yE,x,y1] at g;have H:=B4 c.1;rw[g] at b;simp only[z0] at b ⊢;cases j:xS L A1B c.2 with
  |none=>
   rw[A0P j] at b;rw[a,b];exact⟨rfl,fun e k' h=>by cases h⟩
  |some k3=>
   have r:f=some (k3,max (max D ((d:Int)+1)) (((d+1:Nat):Int)+C5 c.1)):=(by rw[b];exact Q2.2 ⟨j,rfl⟩);rw[r] at a;simp only[z0,yQ] at a ⊢;cases n:sq k3 with
   |none=>
    rw[n] at a;rw[a];exact⟨rfl,fun e k' h=>by cases h⟩
   |some t=>
    rw[n] at a;simp only[y1] at a;have F:=O2 t.1;rw[a];simp only[z0,yO2];cases A:qO L sq t.2 with
    |none=>exact⟨rfl,fun e k' h=>by cases h⟩
    |some o=>
     have G:=O2 o.1;refine⟨?_,fun s k' h=>?_⟩
     ·simp only[z0,y1];have B:max D ((d:Int)+H7 (.ife c.1 t.1 o.1))=max (max (max (max D ((d:Int)+1)) (((d+1:Nat):Int)+C5 c.1)) (((d+1:Nat):Int)+H8 t.1)) (((d+1:Nat):Int)+H8 o.1):=(by simp only[H7];omega);rw[B]
     ·injection h with h;injection h with C E;exact⟨c.1,c.2,_,t.1,t.2,_,o.1,rfl,r,(C9 j).2,n,rfl,rfl,by rw[A,←E],C.symm⟩
section
variable {B bp:Nat}{tv:VL}{L:LB}{w:WD}
theorem B8Z {k d f:Nat}{D:Int}{sq:Nat→Option (Sl×Nat)}(hS:SlD L sq f)(h:Du B bp tv L (some (k,D)) w)(hT:B6 (A0 L k) wIF=true)(hk:L.length<k+1+f)(hdf:d+1+f≤5000)(R:RP)(T:∀w' b,Du B bp tv L ((A5h L sq (k+1)).map (fun q=>(q.2,max D ((d:Int)+H7 q.1)))) w'→A8 bp w w'→w.heap.size≤b→b<w'.heap.size→(∀s k',A5h L sq (k+1)=some (s,k')→k<k'∧DZ TA s w.heap.size w'.heap.size w' b)→R (.returned (.pointer (some ⟨b,0,none⟩))) w'):Calls Tryz.prog 141 #[.pointer (some ⟨bp,0,none⟩),.int .i64 (d:Int)] w R:=by
 have hbB:=h.blt;have hle:=h.le;have hkL:=h.kle;have hsm:=h.sm;simp only at hkL;have et:=U3 hT;have hend:k<L.length:=by
  by_cases c:k<L.length
  ·exact c
  ·rw[G7 c] at et;exact absurd (congrArg ByteArray.size et) (by decide)
 have K1:((K7 wIF:Int)==110)=false:=(by kernel_rfl);have T1:(wIF.toList==[73,70])=true:=(by kernel_rfl);obtain⟨s2,e2⟩:∃s,s=yE L (L.length+1) ((d+1:Nat):Int) (k+1,max D ((d:Int)+1)):=⟨_,rfl⟩;obtain⟨s3,e3⟩:∃s,s=s2.bind (yS L A1B):=⟨_,rfl⟩;obtain⟨s4,e4⟩:∃s,s=s3.bind (yQ sq ((d+1:Nat):Int)):=⟨_,rfl⟩;obtain⟨s7,e7⟩:∃s,s=s4.bind (yO2 L sq ((d+1:Nat):Int)):=⟨_,rfl⟩;obtain⟨hS1,hS2⟩:=B6Q e2 e3 e4 e7;rw[hS1] at T;have hk3:∀p,s3=some p→((d+1:Nat):Int)≤p.2∧L.length<p.1+f∧k+1<p.1:=fun p e=>by rw[e3] at e;obtain⟨p2,N,y2⟩:=C8 e;rw[e2] at N;unfold yE at N;obtain⟨q,y3,y4⟩:=x0.1 N;have z1:=(Cn.e y3).1;have z2:=Q2.1 y2;have z3:=(C9 z2.1).2;rw[←y4] at z2 z3;simp only at z1 z2 z3;omega
 have hk4:∀m,s4=some m→((d+1:Nat):Int)≤m.2∧∃p3 l,s3=some p3∧sq p3.1=some (l,m.1):=fun m e=>by rw[e4] at e;obtain⟨p3,N,y2⟩:=C8 e;unfold yQ at y2;obtain⟨q,y3,y4⟩:=x0.1 y2;have z1:=hk3 p3 N;rw[←y4];exact⟨by simp only;omega,p3,q.1,N,y3⟩
 replace hS1:=hd hS1;replace hS2:=hd hS2;replace T:=hd T;go_enter Tryz.func141,Tryz.ntmps141;go_wp2_with (fail);refine A1z h _ ?_;rw[show lkS L (some (k,D))=A0 L k from rfl,et];intro w1 h1 b1;unfold A2x;have hz1:=b1.size;have c1:w1.cell? ⟨bp,1,none⟩=some (.int .i64 (k:Int)):=h1.1.row.cell (i:=1) (by omega);have f1:=h1.1.row.frozen 1;have lb:=h1.1.row.lt;have jk:IntKind.i64.wrap ((k:Int)+1)=(k:Int)+1:=x2 _ (by omega);have jd:IntKind.i64.wrap ((d:Int)+1)=(d:Int)+1:=x2 _ (by omega);have hN:=(h1.next (p:=(k,D)) hend).alloc (Obj.cells #[.int .u8 (K7 wIF:Int),.string wIF] 176);have oN:=((A8.of_below (b:=bp) b1).setCell (a:=⟨bp,1,none⟩) (.inl rfl) (.int .i64 ((k:Int)+1))).alloc (Obj.cells #[.int .u8 (K7 wIF:Int),.string wIF] 176);have hzT:w1.heap.size+1≤((w1.setCell ⟨bp,1,none⟩ (.int .i64 ((k:Int)+1))).alloc (Obj.cells #[.int .u8 (K7 wIF:Int),.string wIF] 176)).heap.size:=(by simp);have hTk:((w1.setCell ⟨bp,1,none⟩ (.int .i64 ((k:Int)+1))).alloc (Obj.cells #[.int .u8 (K7 wIF:Int),.string wIF] 176)).heap[w1.heap.size]? =some (.cells #[.int .u8 (K7 wIF:Int),.string wIF] 176):=A9 (by simp);replace h1:=hd h1;replace b1:=hd b1;replace et:=hd et;generalize K7 wIF=K at*;go_wp2_with (fail);refine A3A hN _ _ ?_;simp only[y1];intro w2 h2 o2;have oB:=oN.step o2;have hz2:=o2.size;have hT2:=(o2.block w1.heap.size (by omega) (by omega)).trans hTk;have q1:=A1 (i:=1) hT2 rfl;have h3:=h2.alloc (stO 63 none ⟨#[]⟩ none none (.slice none 0 0) (.slice none 0 0) (.slice none 0 0));have oC:=oB.alloc (stO 63 none ⟨#[]⟩ none none (.slice none 0 0) (.slice none 0 0) (.slice none 0 0));have hx3:(w2.alloc (stO 63 none ⟨#[]⟩ none none (.slice none 0 0) (.slice none 0 0) (.slice none 0 0))).heap[w2.heap.size]? =some (stO 63 none ⟨#[]⟩ none none (.slice none 0 0) (.slice none 0 0) (.slice none 0 0)):=A9 rfl;have hz3:w2.heap.size+1≤(w2.alloc (stO 63 none ⟨#[]⟩ none none (.slice none 0 0) (.slice none 0 0) (.slice none 0 0))).heap.size:=(by simp);have lz2:w1.heap.size<w2.heap.size:=(by omega);replace hT2:=hd hT2;replace h2:=hd h2;clear o2 oN oB hTk hN;go_wp2_with (fail);rw[show ((d:Int)+1)=((d+1:Nat):Int) by omega];refine exD L (L.length+1) h3 (fun p e=>by injection e with e;subst e;simp only;omega) (by omega) _ ?_;rw[show (some (k+1,max D ((d:Int)+1)):Option (Nat×Int)).bind (yE L (L.length+1) ((d+1:Nat):Int))=s2 from e2.symm];intro Q bc h4 o4 hc1 hc2 hc3;have U:∀e k',qE L (L.length+1) (k+1)=some (e,k')→k+1<k'∧DE TA e (w2.heap.size+1) Q.heap.size Q bc:=fun e k' y=>by have:=hc3 _ e k' rfl y;exact⟨this.1,this.2.wide (by simp) (y0 _)⟩
 have oD:=oC.step o4;have hz4:=o4.size;have aa:=(o4.block w2.heap.size (by omega) (by omega)).trans hx3;generalize w2.heap.size=b at*;clear o4 oC hx3 h3 hc3;have a3:=A1 (i:=3) aa rfl;have f3:=B2 (i:=3) aa;have hzb4:b<Q.heap.size:=(by omega);have h5:=hd (h4.setNew (show B≤b by omega) 3 (.pointer (some ⟨bc,0,none⟩)));have hx5:=hd (A4 (i:=3) aa (.pointer (some ⟨bc,0,none⟩)));have o5:=hd (oD.setCell (a:=⟨b,3,none⟩) (.inr (by show w.heap.size≤b;omega)) (.pointer (some ⟨bc,0,none⟩)));replace h4:=hd h4;replace aa:=hd aa;replace U:=hd U;clear oD;go_wp2_with (fail);refine P3 (s:=A1B) h5.out (by decide) (.inl (by kernel_rfl)) _ ?_;rw[←e3];intro w6 h6 o6;have hz6:=o6.size;rw[z9] at hz6;have hx6:=(o6.block b (by rw[z9];omega) (by omega)).trans hx5.out;have oE:=o5.out.step o6;have ab:∀e k',qE L (L.length+1) (k+1)=some (e,k')→k+1<k'∧DE TA e (b+1) Q.heap.size w6 bc:=fun e k' y=>⟨(U.out e k' y).1,((U.out e k' y).2.set (.inl (by omega)) 3 _).only o6 (by omega) (by rw[z9];exact y0 _)⟩;replace ab:=hd ab;clear o6 o5 hx5 h5 U;go_wp2_with (fail);rw[show ((d:Int)+1)=((d+1:Nat):Int) by omega];refine hS h6 (fun p e=>⟨(hk3 p e).1,(hk3 p e).2.1⟩) (by omega) _ ?_;rw[←e4];intro w7 ao n cp h7 o7 hu7 hm7;have hz7:=o7.size;have S:=(o7.block b (by omega) (by omega)).trans hx6;have oF:=oE.step o7;have hC7:∀e k',qE L (L.length+1) (k+1)=some (e,k')→k+1<k'∧DE TA e (b+1) Q.heap.size w7 bc:=fun e k' y=>⟨(ab.out e k' y).1,(ab.out e k' y).2.only o7 (by omega) (by omega)⟩;have a5:=A1 (i:=5) S rfl;have f5:=B2 (i:=5) S;have hzb7:b<w7.heap.size:=(by omega);have h8:=h7.setNew (show B≤b by omega) 5 (.slice ao n cp);have hx8:=A4 (i:=5) S (.slice ao n cp);have o8:=oF.setCell (a:=⟨b,5,none⟩) (.inr (by show w.heap.size≤b;omega)) (.slice ao n cp);have hu8:=hd (hu7.kp (A1S (g:=b) (i:=5) (v:=.slice ao n cp) (.inl (by omega)) none));have C:∀e k',qE L (L.length+1) (k+1)=some (e,k')→k+1<k'∧DE TA e (b+1) Q.heap.size (w7.setCell ⟨b,5,none⟩ (.slice ao n cp)) bc:=fun e k' y=>⟨(hC7 e k' y).1,(hC7 e k' y).2.set (.inl (by omega)) 5 _⟩;have hmk:∀m,s4=some m→k+1<m.1:=fun m e=>by obtain⟨_,p3,l,N,y2⟩:=hk4 m e;have:=hm7 p3 l m.1 N y2;have:=(hk3 p3 N).2.2;omega
 replace C:=hd C;replace hC7:=hd hC7;replace hm7:=hd hm7;replace hu7:=hd hu7;replace h7:=hd h7;replace S:=hd S;clear o7 oE oF h6 hx6 ab;go_wp2_with (fail);refine dIs (s:=A1A) h8 (by decide) (.inl (by kernel_rfl)) _ ?_ ?_
 ·intro m O eT w9 h9 P;obtain⟨hY1,E⟩:=A9F (sq:=sq) (d:=((d+1:Nat):Int)) eT;have hmk4:=hmk m O;obtain⟨hd4,_⟩:=hk4 m O;have H:s7=((some (m.1+1,m.2):Option (Nat×Int)).bind (yQ sq ((d+1:Nat):Int))).bind (yS L K5):=(by rw[e7,O];exact hY1);have hz9:=P.size;rw[z9] at hz9;have X:=(P.block b (by rw[z9];omega) (by omega)).trans hx8;have oG:=o8.step P;have x:=hu8.out.kp (P.sm (by omega) (by rw[z9];exact y0 _) none);have r:∀e k',qE L (L.length+1) (k+1)=some (e,k')→k+1<k'∧DE TA e (b+1) Q.heap.size w9 bc:=fun e k' y=>⟨(C.out e k' y).1,(C.out e k' y).2.only P (by omega) (by rw[z9];omega)⟩;replace x:=hd x;replace r:=hd r;replace e7:=hd e7;replace hY1:=hd hY1;replace E:=hd E;clear P o8 hx8 h8 hu8 C;go_wp2_with (fail);rw[show ((d:Int)+1)=((d+1:Nat):Int) by omega];refine hS h9 (fun p e=>by injection e with e;subst e;simp only;omega) (by omega) _ ?_;intro w10 F n2 G h10 M Y ac;have hz10:=M.size;have z:=(M.block b (by omega) (by omega)).trans X;have oH:=oG.step M;have J:∀e k',qE L (L.length+1) (k+1)=some (e,k')→k+1<k'∧DE TA e (b+1) Q.heap.size w10 bc:=fun e k' y=>⟨(r.out e k' y).1,(r.out e k' y).2.only M (by omega) (by omega)⟩;have huY:=x.out.kp (M.sm (by omega) (by omega) none);have a6:=A1 (i:=6) z rfl;have f6:=B2 (i:=6) z;have hzb10:b<w10.heap.size:=(by omega);have h11:=hd (h10.setNew (show B≤b by omega) 6 (.slice F n2 G));have hx11:=hd (A4 (i:=6) z (.slice F n2 G));have o11:=hd (oH.setCell (a:=⟨b,6,none⟩) (.inr (by show w.heap.size≤b;omega)) (.slice F n2 G));have huN:=hd (Y.kp (A1S (g:=b) (i:=6) (v:=.slice F n2 G) (.inl (by omega)) none));have huZ:=hd (huY.kp (A1S (g:=b) (i:=6) (v:=.slice F n2 G) (.inl (by omega)) none));have A:∀e k',qE L (L.length+1) (k+1)=some (e,k')→k+1<k'∧DE TA e (b+1) Q.heap.size (w10.setCell ⟨b,6,none⟩ (.slice F n2 G)) bc:=fun e k' y=>⟨(J e k' y).1,(J e k' y).2.set (.inl (by omega)) 6 _⟩;replace A:=hd A;replace J:=hd J;replace ac:=hd ac;replace Y:=hd Y;replace huY:=hd huY;replace h10:=hd h10;replace z:=hd z;clear M oG oH h9 X r x;go_wp2_with (fail);refine P3 (s:=K5) h11.out (by decide) (.inl (by kernel_rfl)) _ ?_;rw[←H];intro w12 I j;have hz12:=j.size;rw[z9] at hz12;have Z:=hd ((j.block b (by rw[z9];omega) (by omega)).trans hx11.out);have oK:=hd (o11.out.step j);have u:∀e k',qE L (L.length+1) (k+1)=some (e,k')→k+1<k'∧DE TA e (b+1) Q.heap.size w12 bc:=fun e k' y=>⟨(A.out e k' y).1,(A.out e k' y).2.only j (by omega) (by rw[z9];omega)⟩;have hN12:=hd (huN.out.kp (j.sm (by omega) (by rw[z9];exact y0 _) none));have V:=hd (huZ.out.kp (j.sm (by omega) (by rw[z9];omega) none));replace u:=hd u;replace I:=hd I;replace e2:=hd e2;replace e3:=hd e3;replace e4:=hd e4;replace H:=hd H;replace O:=hd O;clear j o11 hx11 h11 A huN huZ;go_wp2;refine A6 (T.out _ b I.out oK.out (by omega) (by omega) (fun s k' e=>?_)) rfl;obtain⟨c,kc,p3,t,kt,p4',o,N,y2,y3,y4,y5,y6,y7,rfl⟩:=hS2.out s k' e;have y8:=O.out;rw[y5] at y8;injection y8 with y8;subst y8;obtain⟨k2,z1,z2⟩:=E.out o k' y7;obtain⟨xs,v1,v2⟩:=V.out;obtain⟨v3,v4⟩:=v2 t kt (by rw[y2];exact y4);obtain⟨zs,v5,v6⟩:=hN12.out;obtain⟨v7,v8⟩:=v6 o k2 z1;have v9:=ac.out _ o k2 rfl z1;simp only at v9;subst v3;subst v7;exact⟨by omega,by omega,by omega,bc,.slice ao t.len cp,.slice F o.len G,w6.heap.size,w9.heap.size,R5 Z.out rfl (X6 rfl rfl rfl rfl rfl rfl rfl rfl),by omega,by omega,by omega,(u.out c kc N).2.wide (y0 _) (by omega),⟨xs,v1.wd (y0 _) (by omega),v4.wide (y0 _) (by omega)⟩,⟨zs,v5.wd (y0 _) (by omega),v8.wide (y0 _) (by omega)⟩⟩
 ·intro hn9 w9 h9 P;have hz9:=P.size;rw[z9] at hz9;have X:=(P.block b (by rw[z9];omega) (by omega)).trans hx8;have oG:=o8.step P;have x:=hu8.out.kp (P.sm (by omega) (by rw[z9];exact y0 _) none);have r:∀e k',qE L (L.length+1) (k+1)=some (e,k')→k+1<k'∧DE TA e (b+1) Q.heap.size w9 bc:=fun e k' y=>⟨(C.out e k' y).1,(C.out e k' y).2.only P (by omega) (by rw[z9];omega)⟩;have H:s7=s4.bind (yS L K5):=by
   rw[e7];cases hs:s4 with
   |none=>rfl
   |some m=>exact (A6u (hn9 m hs) (hk4 m hs).1).1
  have E:∀m o k',s4=some m→qO L sq m.1=some (o,k')→o=.nil∧k'=m.1+1:=fun m o k' e y=>(A6u (hn9 m e) (hk4 m e).1).2 o k' y;replace x:=hd x;replace r:=hd r;replace e7:=hd e7;replace E:=hd E;replace hn9:=hd hn9;clear P o8 hx8 h8 hu8 C;go_wp2_with (fail);refine P3 (s:=K5) h9 (by decide) (.inl (by kernel_rfl)) _ ?_;rw[←H];intro w12 I j;have hz12:=j.size;have Z:=hd ((j.block b (by omega) (by omega)).trans X);have oK:=hd (oG.step j);have u:∀e k',qE L (L.length+1) (k+1)=some (e,k')→k+1<k'∧DE TA e (b+1) Q.heap.size w12 bc:=fun e k' y=>⟨(r.out e k' y).1,(r.out e k' y).2.only j (by omega) (by omega)⟩;have V:=hd (x.out.kp (j.sm (by omega) (by omega) none));replace u:=hd u;replace I:=hd I;replace e2:=hd e2;replace e3:=hd e3;replace e4:=hd e4;replace H:=hd H;replace hmk:=hd hmk;clear j X h9 r x oG;go_wp2;refine A6 (T.out _ b I.out oK.out (by omega) (by omega) (fun s k' e=>?_)) rfl;obtain⟨c,kc,p3,t,kt,m,o,N,y2,y3,y4,y5,y6,y7,rfl⟩:=hS2.out s k' e;obtain⟨z1,z2⟩:=E.out m o k' y5 y7;subst z1;obtain⟨xs,v1,v2⟩:=V.out;obtain⟨v3,v4⟩:=v2 t kt (by rw[y2];exact y4);have:=hmk.out m y5;subst v3;exact⟨by omega,by omega,by omega,bc,.slice ao t.len cp,.slice none 0 0,w6.heap.size,w12.heap.size,R5 Z.out rfl (X6 rfl rfl rfl rfl rfl rfl rfl rfl),by omega,by omega,by omega,(u.out c kc N).2.wide (y0 _) (by omega),⟨xs,v1.wd (y0 _) (by omega),v4.wide (y0 _) (by omega)⟩,⟨[],⟨World.ownsRow_nil _ _ _ _,by simp[Value.ownBlock]⟩,rfl⟩⟩
end
end
section
variable {B bp:Nat}{tv:VL}{L:LB}{st:Option (Nat×Int)}{w:WD}
theorem B0J (h:Du B bp tv L st w){s:BA}(k:s.size≠0)(g:K7 s=119∨K7 s=115)(R:RP)(b:∀w' d a,Du B bp tv L a w'→A8 bp w w'→((d=true∧∃p,st=some p∧B6 (A0 L p.1) s=true∧a=some (p.1+1,p.2))∨(d=false∧a=st∧∀p,st=some p→B6 (A0 L p.1) s=false))→R (.returned (.bool d)) w'):Calls Tryz.prog 85 #[.pointer (some ⟨bp,0,none⟩),.string s] w R:=
 dIs h k g R (fun p f i w' e c=>b w' true _ e c (.inl ⟨rfl,p,f,i,rfl⟩)) (fun j w' e c=>b w' false _ e c (.inr ⟨rfl,rfl,j⟩))
end
def yM (L:LB)(f:Nat)(p:Nat×Int):Option (Nat×Int):=(I0 L f p.1).map (fun q=>(q.2,p.2))
def yW (L:LB)(sq:Nat→Option (Sl×Nat))(d:Int)(f:Nat)(p:Nat×Int):Option (Nat×Int):=(A0U L sq f p.1).map (fun q=>(q.2,max p.2 (d+A1T q.1)))
def stW (L:LB)(sq:Nat→Option (Sl×Nat))(f k:Nat):Option (Wl×Nat):=(A23 L sq k).bind (fun p=>(A0U L sq f p.2).bind (fun q=>some (.cons p.1.1 p.1.2 q.1,q.2)))
theorem A9Y {L:LB}{sq:Nat→Option (Sl×Nat)}{d:Int}{f:Nat}{p:Nat×Int}(h:B6 (A0 L p.1) A1D=true):yW L sq d (f+1) p=(A23 L sq (p.1+1)).bind (fun q=>yW L sq d f (q.2,max p.2 (d+H8 q.1.2)))∧A0U L sq (f+1) p.1=stW L sq f (p.1+1):=by
 have e:A0U L sq (f+1) p.1=stW L sq f (p.1+1):=(by rw[A0U,if_pos h];rfl);refine⟨?_,e⟩;unfold yW;rw[e];unfold stW;cases A23 L sq (p.1+1) with
 |none=>rfl
 |some q=>
  simp only[z0];cases A0U L sq f q.2 with
  |none=>rfl
  |some r=>
   simp only[z0,y1,A1T];congr 2;omega
theorem A8x {L:LB}{sq:Nat→Option (Sl×Nat)}{d:Int}{f:Nat}{p:Nat×Int}(h:B6 (A0 L p.1) A1D=false)(hd:d≤p.2):yW L sq d (f+1) p=some p∧A0U L sq (f+1) p.1=some (.nil,p.1):=by have e:A0U L sq (f+1) p.1=some (.nil,p.1):=(by rw[A0U,if_neg (by rw[h];decide)]);refine⟨?_,e⟩;unfold yW;rw[e];simp only[y1,A1T];rw[show max p.2 (d+0)=p.2 by omega]
theorem B5V {L:LB}{sq:Nat→Option (Sl×Nat)}{d:Int}{p:Nat×Int}{s u j v:Option (Nat×Int)}(g:s=yL L p)(e:u=s.bind (yM L (L.length+1)))(f:j=u.bind (yS L wCO))(a:v=j.bind (yQ sq d)):(A23 L sq p.1).map (fun q=>(q.2,max p.2 (d+H8 q.1.2)))=v∧∀ns bd k',A23 L sq p.1=some ((ns,bd),k')→∃n o c x k,D2 L p.1=some (n,o)∧s=some (o,p.2)∧I0 L (L.length+1) o=some (c,x)∧j=some k∧sq k.1=some (bd,k')∧ns=n::c∧p.1<k.1:=by
 unfold A23;cases r:D2 L p.1 with
 |none=>
  simp only[yL,r,x1] at g;rw[a,f,e,g];exact⟨rfl,fun ns bd k' h=>by cases h⟩
 |some n=>
  simp only[yL,r,y1] at g;have C:=O1 (n:=n.1) (k':=n.2) r;rw[g] at e;simp only[z0,yM] at e ⊢;cases i:I0 L (L.length+1) n.2 with
  |none=>
   rw[i] at e;rw[a,f,e];exact⟨rfl,fun ns bd k' h=>by cases h⟩
  |some c=>
   rw[i] at e;simp only[y1] at e;have B:=A4m (ns:=c.1) (k':=c.2) i;rw[e] at f;simp only[z0] at f ⊢;cases l:xS L wCO c.2 with
   |none=>
    rw[A0P l] at f;rw[a,f];exact⟨rfl,fun ns bd k' h=>by cases h⟩
   |some k3=>
    have t:j=some (k3,p.2):=(by rw[f];exact Q2.2 ⟨l,rfl⟩);have A:=(C9 l).2;rw[t] at a;simp only[z0,yQ] at a ⊢;cases m:sq k3 with
    |none=>
     rw[m] at a;rw[a];exact⟨rfl,fun ns bd k' h=>by cases h⟩
    |some b=>
     rw[m] at a;rw[a];refine⟨rfl,fun ns bd k' h=>?_⟩;injection h with h;injection h with h y;injection h with h z;exact⟨n.1,n.2,c.1,c.2,_,rfl,g,i,t,by rw[←z,←y];exact m,h.symm,by simp only;omega⟩
theorem B4K {L:LB}{sq:Nat→Option (Sl×Nat)}{k d:Nat}{D:Int}{v f i m:Option (Nat×Int)}(g:v=yE L (L.length+1) ((d+1:Nat):Int) (k,max D ((d:Int)+1)))(b:f=v.bind (yS L wOF))(a:i=f.bind (yW L sq ((d+1:Nat):Int) (L.length+1)))(z:m=i.bind (yO2 L sq ((d+1:Nat):Int))):(A5b L sq k).map (fun q=>(q.2,max D ((d:Int)+H7 q.1)))=m∧∀s k',A5b L sq k=some (s,k')→∃c B p u x j o,qE L (L.length+1) k=some (c,B)∧f=some p∧A0U L sq (L.length+1) p.1=some (u,x)∧i=some j∧j.1=x∧qO L sq j.1=some (o,k')∧s=.cas c u o:=by
 subst z;unfold A5b;cases y:qE L (L.length+1) k with
 |none=>
  simp only[yE,y,x1] at g;rw[a,b,g];exact⟨rfl,fun e k' h=>by cases h⟩
 |some c=>
  simp only[yE,y,y1] at g;have I:=B4 c.1;rw[g] at b;simp only[z0] at b ⊢;cases r:xS L wOF c.2 with
  |none=>
   rw[A0P r] at b;rw[a,b];exact⟨rfl,fun e k' h=>by cases h⟩
  |some k3=>
   have n:f=some (k3,max (max D ((d:Int)+1)) (((d+1:Nat):Int)+C5 c.1)):=(by rw[b];exact Q2.2 ⟨r,rfl⟩);rw[n] at a;simp only[z0,yW] at a ⊢;cases l:A0U L sq (L.length+1) k3 with
   |none=>
    rw[l] at a;rw[a];exact⟨rfl,fun e k' h=>by cases h⟩
   |some t=>
    rw[l] at a;simp only[y1] at a;have G:=A3D t.1;rw[a];simp only[z0,yO2];cases A:qO L sq t.2 with
    |none=>exact⟨rfl,fun e k' h=>by cases h⟩
    |some o=>
     have H:=O2 o.1;refine⟨?_,fun s k' h=>?_⟩
     ·simp only[z0,y1];have C:max D ((d:Int)+H7 (.cas c.1 t.1 o.1))=max (max (max (max D ((d:Int)+1)) (((d+1:Nat):Int)+C5 c.1)) (((d+1:Nat):Int)+A1T t.1)) (((d+1:Nat):Int)+H8 o.1):=(by simp only[H7];omega);rw[C]
     ·injection h with h;injection h with E F;exact⟨c.1,c.2,_,t.1,t.2,_,o.1,rfl,n,l,rfl,rfl,by rw[A,←F],E.symm⟩
end Go.Proofs.YtidhiaaicmfabaaGreatDoor
