import Derived.Test.YtmlgonbhoknoiabGreatDoorJBQ
import Derived.Test.YtmlgonbhoknoiabGreatDoorJBR
import Derived.Test.YtmlgonbhoknoiabGreatDoorJBS
import Derived.Test.YtmlgonbhoknoiabGreatDoorJBT
import Derived.Test.YtmlgonbhoknoiabGreatDoorJBU
set_option maxHeartbeats 8000000
set_option maxRecDepth 100000
set_option linter.all false
namespace Go.Proofs.YtmlgonbhoknoiabGreatDoor
open Go.RowKit Go.Proofs.Tryz
section
open Go.ChangeShapes Go.WideShapes Go.ChangeAt Go.WideMaps Go.WideElems Go.RowKit
def O7 (d:Os)(O:d.Started)(x:Type)(c:TypeId×Value->x):
 ReturnsInHanded {} Tryz.checked d 12 .any (fun a b=>(Rows.allSpec.pre c prog Tryz.f12 [] false a b/\laidMetH prog qn a)/\sizedMet c prog Tryz.f12 (OpenSpec.ofChange Rows.allSpec) false a b)
  (Rows.allSpec.post c prog Tryz.f12 false true false false):=by
 refine returnsInHanded_of_change_and (C:=Tryz.checked) (X:=fun a _=>laidMetH prog qn a) (fun _ _ _ H f=>f.of_heap H) RW O ci func12
  (ChangeSpec.witness_shaped (enc:=c) (C:=Tryz.checked) (os:=d) (X:=fun a _=>laidMetH prog qn a) false (World.doorLaid prog 400 d) #[.slice none 0 0] 8 rfl (World.shaped_of_RefB ci ci) ci ci ci (Qy d _)) ?_
 intro W z b j B R s o _ q D _;have r:∀(t:Nat) v w,Tryz.f12.params[t]?=some v->b[t]?=some w->Value.okWide prog W .any z v w:=s;have e:=o;obtain⟨p,V,n,F,rfl,T,U⟩:=o;have m:DataW.TrodAll c prog W 0 (fun _=>true) true Tryz.f12.params.toList b.toList j p:=n;have h:(DataW.weightsEach prog (Tryz.f12.params.toList++Rows.allSpec.plain.varTypes prog) (j++B)).all (· <=reachBytes)=true:=q;rw[Tryz.params12]at m r h;obtain⟨P,d0,rfl,rfl,k⟩:=trodAll_one m;obtain⟨rfl,rfl⟩:=trodVars_none F;clear n s q;simp only[List.append_nil]at e;have C:=k;have I:∀g∈p,g.block<W.heap.size:=fun g M=>by simpa using e.lt g M
 obtain⟨N,A,y,rfl,E,K,L⟩:=Ts (r 0 26 P rfl rfl) k (fun u J=>by
  have:=cX.1 h u (DataW.weights_mem_each (j:=0) rfl rfl u J);simpa using this)
 refine(RX N A y E (l K) W (l L) (l (VR D))).mono fun S Q ⟨G,i⟩=>?_;subst G;exact⟨_,rfl,_,_,_,[],_,[],e,trodAll_mk1 (shut_bool Tryz.underlying4 _),trodAll_mk1 (Below.trod CG ci (of_decide_eq_true ci) C i I),rfl,i.frame _,fun f=>by cases f⟩
def O4 :joinedFacts prog 12 Tryz.f12 Rows.allSpec Rows.allRow=true:=by
 unfold joinedFacts;rw[CG,O6,Pb,O9,O8];kernel_rfl
def Pa :Rows.AllSaid:=
 OpenClaim.holds_of_wide 12 Tryz.f12 rfl rfl rfl rfl rfl rfl rfl ⟨rfl,rfl,rfl,rfl,rfl⟩ rfl rfl rfl rfl rfl (by kernel_rfl) func12 O4
  (of_decide_eq_true (by kernel_rfl)) (by unfold Func.isWrapper;first|(rw[B (by decide+kernel)];kernel_rfl)|(rw[z (by decide+kernel)];exact⟨rfl,rfl⟩))
  (fun c d a b _=>O7 c d a b)
end
end Go.Proofs.YtmlgonbhoknoiabGreatDoor
