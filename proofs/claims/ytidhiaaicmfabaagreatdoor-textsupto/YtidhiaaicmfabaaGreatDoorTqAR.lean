/- Texts (its parts, joined). -/
import Derived.Test.YtidhiaaicmfabaaGreatDoorTqAM
import Derived.Test.YtidhiaaicmfabaaGreatDoorTqAP
open List renaming getElem?_cons_succ→z0
open Array renaming getElem?_eq_some_iff→z1
namespace Go.Proofs.YtidhiaaicmfabaaGreatDoor
open Go.RowKit Go.Proofs Go.Deep
set_option maxRecDepth 100000
set_option maxHeartbeats 4000000
section
structure Kc (bc lo hi:Nat)(u u':VL)(w w':WD):Prop where
 os:w'.os=w.os
 tape:w'.tape=w.tape
 output:w'.output=w.output
 size:w.heap.size≤w'.heap.size
 block:∀b,b<w.heap.size→b≠bc→u.ownBlock≠some b→(∀cur,w.heap[b]? =some (.cells cur 351 (0,0))→b<lo∨hi≤b)→w'.heap[b]? =w.heap[b]?
 own:u'.ownBlock=u.ownBlock∨∃k,u'.ownBlock=some k∧w.heap.size≤k
section
variable {bc lo hi:Nat}{u u' u'':VL}{w w' w'':WD}
theorem Kc.of_kf (h:Kf lo hi w w'):Kc bc lo hi u u w w':=⟨h.os,h.tape,h.output,h.size,fun b a _ _ c=>h.block b a c,.inl rfl⟩
theorem Kc.refl (bc lo hi:Nat)(u:VL)(w:WD):Kc bc lo hi u u w w:=Kc.of_kf (Kf.refl _ _ _)
theorem Kc.notold (h:Kc bc lo hi u u' w w'){k:Nat}(c:k<w.heap.size)(b:u.ownBlock≠some k):u'.ownBlock≠some k:=by
 rcases h.own with e|⟨x,e,d⟩
 ·rw[e];exact b
 ·rw[e];intro a;injection a with a;omega
theorem Kc.trans (h:Kc bc lo hi u u' w w')(k:Kc bc lo hi u' u'' w' w''):Kc bc lo hi u u'' w w'':=by
 refine⟨k.os.trans h.os,k.tape.trans h.tape,k.output.trans h.output,Nat.le_trans h.size k.size,fun b a d f c=>?_,?_⟩
 ·have e:=h.block b a d f c;exact (k.block b (Nat.lt_of_lt_of_le a h.size) d (h.notold a f) (fun cur g=>c cur (e.symm.trans g))).trans e
 ·rcases k.own with e|⟨x,e,i⟩
  ·rw[e];exact h.own
  ·exact .inr ⟨x,e,Nat.le_trans h.size i⟩
theorem Kc.wide {lo' hi':Nat}(h:Kc bc lo hi u u' w w')(g:lo'≤lo)(i:hi≤hi'):Kc bc lo' hi' u u' w w':=⟨h.os,h.tape,h.output,h.size,fun b c a d e=>h.block b c a d (fun cur f=>by have:=e cur f;omega),h.own⟩
end
end
def Wl.app:Wl→Wl→Wl
 |.nil,r=>r
 |.cons ns b t,r=>.cons ns b (t.app r)
def Wl.len:Wl→Nat
 |.nil=>0
 |.cons _ _ t=>t.len+1
theorem Wl.app_nil:∀l:Wl,l.app .nil=l
 |.nil=>rfl
 |.cons ns b t=>by simp only[Wl.app];rw[Wl.app_nil t]
theorem Wl.app_assoc:∀a b c:Wl,(a.app b).app c=a.app (b.app c)
 |.nil,_,_=>rfl
 |.cons ns h t,b,c=>by simp only[Wl.app];rw[Wl.app_assoc t b c]
theorem Wl.len_app:∀a b:Wl,(a.app b).len=a.len+b.len
 |.nil,b=>by simp[Wl.app,Wl.len]
 |.cons _ _ t,b=>by simp only[Wl.app,Wl.len,Wl.len_app t b];omega
theorem O5.len {kk:Ex→Int}{w:WD}{g:Option Nat}:∀{l:Wl}{lo hi:Nat}{xs:List VL},O5 kk g l lo hi w xs→xs.length=l.len*2
 |.nil,_,_,_,h=>by rw[h];rfl
 |.cons _ _ _,_,_,_,⟨_,_,ys,_,_,_,_,e1,_,_,_,_,_,_,_,_,h10⟩=>by rw[e1];simp only[List.length_cons,Wl.len,h10.len];omega
theorem O5.wide {kk:Ex→Int}{w:WD}{g:Option Nat}:∀{l:Wl}{lo hi lo' hi':Nat}{xs:List VL},O5 kk g l lo hi w xs→lo'≤lo→hi≤hi'→O5 kk g l lo' hi' w xs
 |.nil,_,_,_,_,_,h,_,_=>h
 |.cons _ _ _,_,_,_,_,_,⟨vn,vb,ys,a,m1,c,m,e1,h1,h2,h3,h4,h5,h6,h7,h8,h10⟩,p,q=>⟨vn,vb,ys,a,m1,c,m,e1,by omega,h2,h3,h4,by omega,h6,h7,h8,h10.wide (Nat.le_refl _) q⟩
theorem O5.belowZ {kk:Ex→Int}{g:Option Nat}{l:Wl}{lo hi:Nat}{w w':WD}{xs:List VL}(h:O5 kk g l lo hi w xs)(a:Below w.heap.size w w'):O5 kk g l lo hi w' xs:=h.keep (fun b _ _ _ _ _ _ c=>a.block b (z1.1 c).1)
theorem O5.at {kk:Ex→Int}{g:Option Nat}{w:WD}{ns:List Int}{b:Sl}{t:Wl}:∀{done:Wl}{lo hi:Nat}{xs:List VL},O5 kk g (done.app (.cons ns b t)) lo hi w xs→∃f e a m c zs,xs[done.len*2]? =some f∧xs[done.len*2+1]? =some e∧lo≤a∧a≤m∧m≤c∧c≤hi∧C2 w a m 2 1 f ns.length (A2t ns)∧C2 w m c 240 1 e b.len zs∧G1 kk e.ownBlock b m c w zs
 |.nil,lo,hi,xs,⟨f,e,ys,a,m1,c,m,e1,h1,h2,h3,h4,h5,h6,h7,⟨zs,h8,h9⟩,h10⟩=>⟨f,e,a,m1,c,zs,by rw[e1];rfl,by rw[e1];rfl,h1,h2,h3,by omega,h7,h8,h9⟩
 |.cons _ _ d,lo,hi,xs,⟨_,_,ys,a,m1,c,m,e1,h1,h2,h3,h4,h5,h6,h7,_,h10⟩=>by
  obtain⟨f,e,l,k,c',zs,i,p,q,h,o,n,j⟩:=O5.at (done:=d) h10;refine⟨f,e,l,k,c',zs,?_,?_,by omega,h,o,n,j⟩
  ·rw[e1,Wl.len,show (d.len+1)*2=d.len*2+1+1 by omega,z0,z0];exact i
  ·rw[e1,Wl.len,show (d.len+1)*2+1=d.len*2+1+1+1 by omega,z0,z0];exact p
theorem C2.nW {kk:Ex→Int}{w:WD}{g:Option Nat}{l:Wl}{lo hi n:Nat}{v:VL}{xs:List VL}(h:C2 w lo hi 317 2 v n xs)(a:O5 kk g l lo hi w xs):n=l.len:=by have b:=h.1.1;have c:=a.len;omega
theorem C2.two {w:WD}{lo hi n:Nat}{v:VL}{xs:List VL}(h:C2 w lo hi 317 2 v n xs)(d:n≠0):∃g cap cur,v=.slice (some ⟨g,0,none⟩) n cap∧g<hi∧g<w.heap.size∧w.heap[g]? =some (.cells cur 317 (0,0))∧∀(i:Nat) (x:VL),xs[i]? =some x→cur[i]? =some x:=by
 rcases h.1.2 with ⟨_,e⟩|⟨g,cap,cur,rfl,_,b,j,_,f,c⟩
 ·exact absurd e d
 ·refine⟨g,cap,cur,rfl,h.2 g rfl,(z1.1 b).1,b,fun i x a=>?_⟩;rw[←c] at a;have hi:i<n*2:=(by have:=(List.getElem?_eq_some_iff.1 a).1;rw[List.length_take] at this;omega);rw[List.getElem?_take_of_lt hi] at a;simpa using a
def inI (n:Int):Bool:=decide (-32768≤n)&&decide (n≤32767)
def inD (n:Int):Bool:=decide (-2147483648≤n)&&decide (n≤2147483647)
theorem B5p (n:Int):(wrap64 (IntKind.i16.wrap n)==n)=inI n:=by have e:IntKind.i16.wrap n=if n%65536≥32768 then n%65536-65536 else n%65536:=(by simp[IntKind.wrap,IntKind.signed,IntKind.bits]);have h:wrap64 (IntKind.i16.wrap n)=IntKind.i16.wrap n:=(by rw[e];unfold wrap64;split<;>omega);rw[h,e,Bool.eq_iff_iff];simp only[inI,beq_iff_eq,Bool.and_eq_true,decide_eq_true_eq];split<;>omega
theorem B5f (n:Int):(wrap64 (wrap32 n)==n)=inD n:=by rw[Bool.eq_iff_iff];simp only[inD,beq_iff_eq,Bool.and_eq_true,decide_eq_true_eq];unfold wrap64 wrap32;omega
theorem A3o (w:WD)(n:Int)(R:RP)(a:R (.returned (.bool (inI n))) w):Calls Tryz.prog 322 #[.int .u8 1,.int .i64 n] w R:=by replace a:=hd a;have b:=hd (B5p n);go_enter Tryz.func322,Tryz.ntmps322;go_wp2;refine A6 a.out ?_;show Value.bool _=Value.bool _;rw[←b.out]
end Go.Proofs.YtidhiaaicmfabaaGreatDoor
