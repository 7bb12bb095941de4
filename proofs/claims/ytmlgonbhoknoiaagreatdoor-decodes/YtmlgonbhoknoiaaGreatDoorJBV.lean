import Derived.Test.YtmlgonbhoknoiaaGreatDoorJBQ
import Derived.Test.YtmlgonbhoknoiaaGreatDoorJBR
import Derived.Test.YtmlgonbhoknoiaaGreatDoorJBS
import Derived.Test.YtmlgonbhoknoiaaGreatDoorJBT
import Derived.Test.YtmlgonbhoknoiaaGreatDoorJBU
set_option maxHeartbeats 8000000
set_option maxRecDepth 100000
set_option linter.all false
namespace Go.Proofs.YtmlgonbhoknoiaaGreatDoor
open Go.RowKit Go.Proofs.Tryz
section
open Go.ChangeShapes Go.WideShapes Go.ChangeAt Go.WideMaps Go.WideElems Go.RowKit
def P4 (i:Os)(M:i.Started)(y:Type)(h:TypeId×Value->y):
 ReturnsInHanded {} Tryz.checked i 3 .any (fun f g=>(Rows.decodesSpec.pre h prog Tryz.f3 [] false f g/\laidMetH prog dm f)/\sizedMet h prog Tryz.f3 (OpenSpec.ofChange Rows.decodesSpec) false f g)
  (Rows.decodesSpec.post h prog Tryz.f3 false true false false):=by
 refine returnsInHanded_of_change_and (C:=Tryz.checked) (X:=fun f _=>laidMetH prog dm f) (fun _ _ _ H D=>D.of_heap H) kQ M aQ func3
  (ChangeSpec.witness_shaped (enc:=h) (C:=Tryz.checked) (os:=i) (X:=fun f _=>laidMetH prog dm f) false (World.doorLaid prog 400 i) #[.slice none 0 0] 8 rfl (World.shaped_of_RefB aQ aQ) aQ aQ aQ (kI i _)) ?_
 intro W A g k C Q t q _ r E _;have s:∀(u:Nat) w x,Tryz.f3.params[u]?=some w->g[u]?=some x->Value.okWide prog W .any A w x:=t;have a:=q;obtain⟨p,U,o,G,rfl,S,T⟩:=q;have n:DataW.TrodAll h prog W 0 (fun _=>true) true Tryz.f3.params.toList g.toList k p:=o;have j:(DataW.weightsEach prog (Tryz.f3.params.toList++Rows.decodesSpec.plain.varTypes prog) (k++C)).all (· <=reachBytes)=true:=r;rw[Tryz.params3]at n s j;obtain⟨N,d0,rfl,rfl,m⟩:=trodAll_one n;obtain⟨rfl,rfl⟩:=trodVars_none G;clear o t r;simp only[List.append_nil]at a;have c:=m;have e:∀O∈p,O.block<W.heap.size:=lP;obtain⟨L,B,z,rfl,F,J,K⟩:=kY (s 0 22 N rfl rfl) m (fun v I=>by
  have:=cj.1 j v (DataW.weights_mem_each (j:=0) rfl rfl v I);simpa using this)
 refine(RZ L B z F (l J) W (l K) (l (ld E))).mono fun R P ⟨d,b⟩=>?_;exact lX
def P1 :joinedFacts prog 3 Tryz.f3 Rows.decodesSpec Rows.decodesRow=true:=by
 unfold joinedFacts;rw[jV,P3,P8,P6,P5];kernel_rfl
def P7 :Rows.DecodesSaid:=
 OpenClaim.holds_of_wide 3 Tryz.f3 rfl rfl rfl rfl rfl rfl rfl ⟨rfl,rfl,rfl,rfl,rfl⟩ rfl rfl rfl rfl rfl (by kernel_rfl) func3 P1
  (of_decide_eq_true (by kernel_rfl)) (by unfold Func.isWrapper;first|(rw[B (by decide+kernel)];kernel_rfl)|(rw[z (by decide+kernel)];exact⟨rfl,rfl⟩))
  (fun c d a b _=>P4 c d a b)
end
end Go.Proofs.YtmlgonbhoknoiaaGreatDoor
