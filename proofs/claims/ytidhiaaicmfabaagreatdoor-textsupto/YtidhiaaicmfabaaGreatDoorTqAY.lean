/- Texts (its parts, joined). -/
import Derived.Test.YtidhiaaicmfabaaGreatDoorTqAX
import Derived.Test.YtidhiaaicmfabaaGreatDoorRows
import Derived.ProofKit
import Derived.OpenShut
import Derived.LaidMore
import Derived.Lay
import Derived.SevenTiedAt
import Derived.Stop.Joined
import Derived.Lib.LaidU8
import Derived.Deep.Strs
open List renaming getElem?_take_of_lt→z0,getElem?_eq_getElem→z1
open Array renaming getElem?_toList→z2
namespace Go.Proofs.YtidhiaaicmfabaaGreatDoor
open Go.RowKit Go.Proofs Go.Deep
set_option maxRecDepth 100000
set_option maxHeartbeats 4000000
open Go.ChangeShapes Go.WideShapes Go.ChangeAt
theorem B9V:Tryz.prog.globalNamed "sluice/sluice.operators" =some 4:=by kernel_rfl
theorem B8H:(Tryz.prog.globals[4]?).map (·.type)=some 362:=by kernel_rfl
theorem cOp:Tryz.prog.cellsOf 349=3:=by kernel_rfl
theorem cU8:Tryz.prog.cellsOf 5=1:=by kernel_rfl
theorem C0f:Tryz.prog.cellsOf 347=1:=by kernel_rfl
theorem C0I:Tryz.prog.cellsOf 9=1:=by kernel_rfl
def opD (j:Nat):DataW Unit:=.agg [.lit (.string (P6 j).data.toList),.lit (.int .u8 (opF j)),.lit (.int .u8 (opI j))]
theorem B36:Rows.laid_sluice_sluice_operators=DataW.agg ((List.range 9).map opD):=by kernel_rfl
theorem C0l:∃b a c,Tryz.prog.underlying 349=some (.struct #[b,a,c])∧b.type=9∧b.offset=0∧a.type=347∧a.offset=1∧c.type=5∧c.offset=2:=⟨_,_,_,Tryz.underlying349,rfl,rfl,rfl,rfl,rfl,rfl⟩
theorem B8Q (i:Nat)(hi:i<9):opC[3*i]? =some (.string (P6 i))∧opC[3*i+1]? =some (.int .u8 (opF i))∧opC[3*i+2]? =some (.int .u8 (opI i)):=by have a:i=0∨i=1∨i=2∨i=3∨i=4∨i=5∨i=6∨i=7∨i=8:=(by omega);rcases a with rfl|rfl|rfl|rfl|rfl|rfl|rfl|rfl|rfl<;>exact⟨rfl,rfl,rfl⟩
theorem B4g:opC.length=27:=by kernel_rfl
theorem A8z {l:List VL}{a b:Nat}{x:VL}(h:((l.drop a).take 3 |>.drop b |>.take 1)=[x])(d:b<3):l[a+b]? =some x:=by have c:(((l.drop a).take 3 |>.drop b |>.take 1))[0]? =some x:=(by rw[h];rfl);rw[z0 (by omega),List.getElem?_drop,z0 (by omega),List.getElem?_drop] at c;simpa using c
theorem B0G {l:List (String×DataW Unit)}{W:WD}(h:laidMet Tryz.prog l W)(U:("sluice/sluice.operators",Rows.laid_sluice_sluice_operators)∈l):∀i v,opC[i]? =some v→W.cell? ⟨4,i,none⟩=some v:=by
 obtain⟨g,t,f,fuel,p,E,T,M,h4⟩:=Lib.laidMet.reads h U;obtain rfl:=Option.some.inj (B9V.symm.trans E);obtain rfl:=Option.some.inj (B8H.symm.trans T);obtain⟨xs,m,_,ex,S,hl,y⟩:=DataW.trod_array (by kernel_rfl:Tryz.prog.underlying 362=some (.array 9 349)) h4;have O:xs.map (·.1)=(List.range 9).map opD:=(by have:=(Prod.mk.inj ex).1;rw[B36] at this;exact (DataW.agg.inj this).symm);have c:∀j,j<9→f.toList[3*j]? =some (.string (P6 j))∧f.toList[3*j+1]? =some (.int .u8 (opF j))∧f.toList[3*j+2]? =some (.int .u8 (opI j)):=fun j k=>by
  have I:=y j k;rw[cOp,z1 (by omega)] at I;obtain⟨f0,f1,f2,K,V,N,t1,Q,P,o2⟩:=C0l;obtain⟨y0,y1,y2,n,Z,_,F,H,J⟩:=trod_struct3 K I;rw[V,N,C0I] at F;rw[t1,Q,C0f] at H;rw[P,o2,cU8] at J;obtain⟨s,D,Y,_⟩:=DataW.trod_string Tryz.underlying9 F;obtain⟨a,C,a2,_⟩:=DataW.trod_int (by kernel_rfl:Tryz.prog.underlying 347=some (.int .u8)) H;obtain⟨b,B,b2,_⟩:=DataW.trod_int Tryz.underlying5 J;have z:(xs[j]).1=opD j:=(by have e:(xs.map (·.1))[j]? =((List.range 9).map opD)[j]? :=(by rw[O]);rw[List.getElem?_map,List.getElem?_map,z1 (by omega),List.getElem?_range (by omega)] at e;simpa using e);rw[Z,Y,a2,b2] at z;unfold opD at z;have G:=DataW.agg.inj z;simp only[List.cons.injEq,DataW.lit.injEq,Lit.string.injEq,Lit.int.injEq,true_and,and_true] at G;obtain⟨A,p2,L⟩:=G;have R:s=P6 j:=by
   cases r:s with
   |mk d=>
    cases x:P6 j with
    |mk d2=>
     rw[r,x] at A;congr 1;exact Array.toList_inj.1 A
  rw[Nat.mul_comm j 3] at D C B;refine⟨?_,?_,?_⟩
  ·have:=A8z D (by omega);rw[Nat.add_zero,R] at this;exact this
  ·have:=A8z C (by omega);rw[p2] at this;exact this
  ·have:=A8z B (by omega);rw[L] at this;exact this
 intro i v o;have hi:i<27:=(by rw[←B4g];exact (List.getElem?_eq_some_iff.1 o).1);rw[World.var?_cell E M i];obtain⟨j,k,X⟩:∃j,j<9∧(i=3*j∨i=3*j+1∨i=3*j+2):=⟨i/3,by omega,by omega⟩;have e:=c j k;have u:=B8Q j k;have q:f[i]? =f.toList[i]? :=(z2 ..).symm;rw[q];rcases X with rfl|rfl|rfl
 ·exact e.1.trans (u.1.symm.trans o)
 ·exact e.2.1.trans (u.2.1.symm.trans o)
 ·exact e.2.2.trans (u.2.2.symm.trans o)
theorem B05:ownKnob Tryz.prog.godebug=none:=by kernel_rfl
theorem B3b {H:Type}{f:TypeId×VL→H}{P:Program}{w:WD}{e fuel:Nat}{c:Nat→Bool}{d:Bool}{t:TypeId}{g:List VL}{x:DataW H×List MemPlace}{m:Array (String×TypeId)}(i:P.underlying t=some (.interface m))(h:DataW.trod f P w e c d fuel t g=some x):∃v,g=[v]∧(v=.nilIface∨∃j k,v=.iface j k):=by
 cases fuel with
 |zero=>cases h
 |succ fuel=>
  unfold DataW.trod at h;rw[i] at h;match g,h with
  |[],h=>simp at h
  |[v],h=>cases v<;>first|exact⟨_,rfl,.inl rfl⟩|exact⟨_,rfl,.inr ⟨_,_,rfl⟩⟩|simp at h
  |a::b::r,h=>simp at h
theorem C0t:Tryz.prog.globalNamed "strconv.ErrRange" =some 2:=by kernel_rfl
theorem B94:Tryz.prog.globalNamed "strconv.ErrSyntax" =some 1:=by kernel_rfl
theorem B8J:∃t m,(Tryz.prog.globals[1]?).map (·.type)=some t∧Tryz.prog.underlying t=some (.interface m):=⟨162,_,by kernel_rfl,Tryz.underlying162⟩
theorem B9G:∃t m,(Tryz.prog.globals[2]?).map (·.type)=some t∧Tryz.prog.underlying t=some (.interface m):=⟨162,_,by kernel_rfl,Tryz.underlying162⟩
theorem A88 {l:List (String×DataW Unit)}{W:WD}(h:laidMet Tryz.prog l W){s:String}{D:DataW Unit}(f:(s,D)∈l){g:Nat}(j:Tryz.prog.globalNamed s=some g)(o:∃t m,(Tryz.prog.globals[g]?).map (·.type)=some t∧Tryz.prog.underlying t=some (.interface m)):∃a,W.cell? ⟨g,0,none⟩=some a∧(a=.nilIface∨∃q i,a=.iface q i):=by obtain⟨g',t,x,fuel,p,d,u,n,r⟩:=Lib.laidMet.reads h f;obtain rfl:=Option.some.inj (j.symm.trans d);obtain⟨y,m,c,b⟩:=o;obtain rfl:=Option.some.inj (c.symm.trans u);obtain⟨v,e,k⟩:=B3b b r;refine⟨v,?_,k⟩;rw[World.var?_cell d n 0,←z2,e];rfl
end Go.Proofs.YtidhiaaicmfabaaGreatDoor
