import Derived.Test.YtmlgonbhoknoiaaGreatDoorJBQ
import Derived.Test.YtmlgonbhoknoiaaGreatDoorJCO
import Derived.Test.YtmlgonbhoknoiaaGreatDoorJCP
import Derived.Test.YtmlgonbhoknoiaaGreatDoorJCQ
import Derived.Test.YtmlgonbhoknoiaaGreatDoorJCR
set_option maxHeartbeats 8000000
set_option maxRecDepth 100000
set_option linter.all false
namespace Go.Proofs.YtmlgonbhoknoiaaGreatDoor
open Go.RowKit Go.Proofs.Tryz
section
open Go.ChangeShapes Go.WideShapes Go.ChangeAt Go.WideMaps Go.WideElems Go.RowKit
def aaD (i:Os)(M:i.Started)(y:Type)(h:TypeId×Value->y):
 ReturnsInHanded {} Tryz.checked i 6 .any (fun f g=>(Rows.textsSpec.pre h prog Tryz.f6 [] false f g/\laidMetH prog dm f)/\sizedMet h prog Tryz.f6 (OpenSpec.ofChange Rows.textsSpec) false f g)
  (Rows.textsSpec.post h prog Tryz.f6 false true false false):=by
 refine returnsInHanded_of_change_and (C:=Tryz.checked) (X:=fun f _=>laidMetH prog dm f) (fun _ _ _ H D=>D.of_heap H) kQ M aQ func6
  (ChangeSpec.witness_shaped (enc:=h) (C:=Tryz.checked) (os:=i) (X:=fun f _=>laidMetH prog dm f) false (World.doorLaid prog 400 i) #[.slice none 0 0] 8 rfl (World.shaped_of_RefB aQ aQ) aQ aQ aQ (kI i _)) ?_
 intro W A g k C Q t q _ r E _;have s:∀(u:Nat) w x,Tryz.f6.params[u]?=some w->g[u]?=some x->Value.okWide prog W .any A w x:=t;have a:=q;obtain⟨p,U,o,G,rfl,S,T⟩:=q;have n:DataW.TrodAll h prog W 0 (fun _=>true) true Tryz.f6.params.toList g.toList k p:=o;have j:(DataW.weightsEach prog (Tryz.f6.params.toList++Rows.textsSpec.plain.varTypes prog) (k++C)).all (· <=reachBytes)=true:=r;rw[Tryz.params6]at n s j;obtain⟨N,d0,rfl,rfl,m⟩:=trodAll_one n;obtain⟨rfl,rfl⟩:=trodVars_none G;clear o t r;simp only[List.append_nil]at a;have c:=m;have e:∀O∈p,O.block<W.heap.size:=lP;obtain⟨L,B,z,rfl,F,J,K⟩:=kY (s 0 22 N rfl rfl) m (fun v I=>by
  have:=cj.1 j v (DataW.weights_mem_each (j:=0) rfl rfl v I);simpa using this)
 refine(R6 L B z F (l J) W (l K) (l (ld E))).mono fun R P ⟨d,b⟩=>?_;exact lX
def aaA :joinedFacts prog 6 Tryz.f6 Rows.textsSpec Rows.textsRow=true:=by
 unfold joinedFacts;rw[jV,aaC,aaH,aaF,aaE];kernel_rfl
def aaG :Rows.TextsSaid:=
 OpenClaim.holds_of_wide 6 Tryz.f6 rfl rfl rfl rfl rfl rfl rfl ⟨rfl,rfl,rfl,rfl,rfl⟩ rfl rfl rfl rfl rfl (by kernel_rfl) func6 aaA
  (of_decide_eq_true (by kernel_rfl)) (by unfold Func.isWrapper;first|(rw[B (by decide+kernel)];kernel_rfl)|(rw[z (by decide+kernel)];exact⟨rfl,rfl⟩))
  (fun c d a b _=>aaD c d a b)
end
end Go.Proofs.YtmlgonbhoknoiaaGreatDoor
