import Derived.Test.YtmlgonbhoknoiaaGreatDoorRows
import Derived.Test.YtmlgonbhoknoiaaGreatDoorJBP
set_option maxHeartbeats 8000000
set_option maxRecDepth 100000
set_option linter.all false
namespace Go.Proofs.YtmlgonbhoknoiaaGreatDoor
open Go.RowKit Go.Proofs.Tryz
section
open Go.ChangeShapes Go.WideShapes Go.ChangeAt Go.WideMaps Go.WideElems Go.RowKit
def kQ :ownKnob prog.godebug=none:=by kernel_rfl
def jV :laidOutB prog=true:=by kernel_rfl
def dm :List (String×DataW Unit):=[("math/bits.deBruijn32tab",Rows.laid_math_bits_deBruijn32tab),("math/bits.deBruijn64tab",Rows.laid_math_bits_deBruijn64tab),("internal/strconv.uint64pow10",Rows.laid_internal_strconv_uint64pow10)]
def QL :prog.globalNamed "internal/strconv.uint64pow10" =some 0:=by kernel_rfl
def QM :(prog.globals[0]?).map (·.type)=some 283:=by kernel_rfl
def ld {W:D}(a:laidMetH prog dm W):c0 W:=by
 rw[MakeChecks.laidMetH_plain _ _ _ (by kernel_rfl)]at a;obtain⟨x,⟨j,t0,g,f0,u,y,o,q,s,m,⟨k,t1,h,f1,v,z,p,r,t,n,⟨l,t2,i,f2,w,A,d,e,f,c,_,_⟩,_⟩,_⟩,_,_⟩:=a;obtain rfl:=dr (QL.symm.trans d);obtain rfl:=dr (QM.symm.trans e);have b:=Lib.cells_of_tab (zs:=Lib.pow10Tab) (k:=.u64) Tryz.underlying283 aQ aQ aQ c;unfold c0 Lib.TabIs;rw[f,<-b]
def wL {a:Int}(b:(Lit.int .i64 a).wf=true):-9223372036854775808<=a/\a<=9223372036854775807:=by
 simpa[Lit.wf,IntKind.min,IntKind.max,IntKind.signed,IntKind.bits]using b
theorem EU {e:Type}{f:Program}{g:TypeId}:∀{l:List (DataW e)} {i:Nat} {d:DataW e},l[i]?=some d->∀b∈d.weights f g,b∈DataW.weightsAll f g l
 |[],i,d,a,b,c=>by simp at a
 |h::l,0,d,a,b,c=>by
  simp only[us,b6]at a
  subst a
  simp only[DataW.weightsAll,List.mem_append];exact .inl c
 |h::l,i+1,d,a,b,c=>by
  simp only[List.getElem?_cons_succ]at a
  simp only[DataW.weightsAll,List.mem_append];exact .inr (EU a b c)
def Bc (a b i:Nat):(⟨a,b,none⟩:Addr).add i=⟨a,b+i,none⟩:=by
 unfold Addr.add;split<;>simp_all
def OF (a c i b:Nat):((⟨a,c,none⟩:Addr).add i).add b=⟨a,c+i+b,none⟩:=by
 rw[Bc,Bc]
def TQ :bA:=⟨0,0,0,0,⟨#[]⟩⟩
theorem kY {y:Type}{al:TypeId×Value->y}{W:D}{q:Value}{d0:DataW y}{p:List MemPlace}{ai:Nat}(aB:Value.okWide prog W .any ai 22 q)
 (l:DataW.Trod al prog W 0 (fun _=>true) true 22 q d0 p) (o:∀b∈d0.weights prog 22,b<=reachBytes):
 ∃Y F k,q=.slice Y k.length F/\k.length<=1125899906842624/\(∀j∈k,cw j)/\fd W Y k:=by
 obtain⟨Z,d,aa,rfl⟩:=okWide_slice Tryz.underlying22 aB;obtain⟨aO,l⟩:=l;have au:(Value.slice Z d aa).cells.toList=[.slice Z d aa]:=rfl;rw[au]at l;rcases Deep.open_slice Tryz.underlying22 l with⟨e,_⟩|⟨z,aT,F,X,b,s,aN,e,_,aQ,aR,Q,T,S⟩
 . simp only[List.cons.injEq,gg,Value.slice.injEq]at e;obtain⟨rfl,rfl,rfl⟩:=e;exact⟨none,0,[],rfl,by simp,by simp,.inl rfl⟩
 . simp only[List.cons.injEq,gg,Value.slice.injEq]at e;obtain⟨rfl,rfl,rfl⟩:=e;simp only[if_true]at Q;subst Q;have E:prog.cellsOf 39=5:=gY;have c3:prog.cellsOf 3=1:=gY;have aj:prog.cellsOf 9=1:=gY;simp only[bM]at T;obtain⟨av,_⟩:=T;subst av;have aq:prog.bytesOf 39=48:=gY;simp only[DataW.weights,Tryz.underlying22,aq,dD,List.mem_append,gT,List.length_range]at o;have n:=o _ (.inl rfl);have aS:d<=1125899906842624:=by unfold reachBytes at n;omega
   have aw:∀i,i<d->∀b∈ (s i).weights prog 39,b<=reachBytes:=fun i h b ay=>o b (.inr (.inl (EU (l:=(List.range d).map s) (i:=i) (d:=s i) (by simp[h]) b ay)));clear o n;cases d with
   |zero=>exact⟨some z,X,[],rfl,by simp,by simp,.inl rfl⟩
   |succ u=>
    obtain⟨r,c,_⟩:=S 0 m;rw[E]at c;have ap:=World.cells?_block c R;obtain⟨_,ax,ar⟩:=World.cells?_some c;obtain⟨w,x,aH⟩:=z;have aA:aH=none:=by
     have an:=ar 0 R;match r,ax with
     |aU::_,_=>simpa[Addr.add]using World.cell?_spot an
    subst aA;have ak:∀i,i<u+1->∃j:bA,pK W w (x+i*5) j/\cw j:=by
     intro i h;obtain⟨r,c,ao⟩:=S i m;rw[E]at c;obtain⟨_,n,f⟩:=World.cells?_some c;obtain⟨aK,aM,aP,U,_,aC,a⟩:=DataW.trod_struct Tryz.underlying39 ao;have P:=aw i h;simp only[bM]at U;rw[U.1]at P;match r,n with
     |[q,v1,v2,v3,v4],_=>
      have t:=f 0 R;have G:=f 1 R;have H:=f 2 R;have I:=f 3 R;have J:=f 4 R;rw[OF]at t G H I J;simp only[dl]at t;match aK,aC with
      |[y0,y1,y2,y3,y4],_=>
       have K:=a 0 _ rfl;have L:=a 1 _ rfl;have M:=a 2 _ rfl;have N:=a 3 _ rfl;have O:=a 4 _ rfl;simp[c3,aj]at K L M N O;obtain⟨aD,ab,_,aV⟩:=DataW.trod_int Tryz.underlying3 K;obtain⟨aE,ac,_,aI⟩:=DataW.trod_int Tryz.underlying3 L;obtain⟨aF,ad,_,aJ⟩:=DataW.trod_int Tryz.underlying3 M;obtain⟨aG,ae,_,w3⟩:=DataW.trod_int Tryz.underlying3 N;obtain⟨v,af,aL,aW⟩:=DataW.trod_string h5 O;simp only[List.cons.injEq,gg]at ab ac ad ae af;subst ab ac ad ae af;have A:=wL aI;have B:=wL aJ;have C:=wL w3;refine⟨⟨aD,aE,aF,aG,v⟩,⟨t,G,H,I,J⟩,⟨A.1,A.2,B.1,B.2,C.1,C.2,?_⟩⟩;subst aL;have az:=P v.size (by
        simp only[DataW.weights,Tryz.underlying39,tT,List.map_nil];exact DataW.weights_mem_each (j:=4) rfl rfl _ (by simp[DataW.weights]))
       unfold reachBytes at az;show v.size<=1125899906842624;omega
    haveI:Inhabited bA:=⟨TQ⟩;obtain⟨am,a⟩:=Deep.choose_lt ak;refine⟨some ⟨w,x,none⟩,X,(List.range (u+1)).map am,by simp,by simp;omega,?_,.inr ⟨w,x,rfl,ap,?_⟩⟩
    . intro j ah;obtain⟨i,h,rfl⟩:=List.mem_map.1 ah;exact(a i (List.mem_range.1 h)).2
    . intro V g;have ag:V<u+1:=pB;have:=(a V ag).1;simpa using this
def kI (b:Os)(a:Array Value):laidMetH prog dm ((World.doorLaid prog 400 b).forCall (fun _ _=>0) ⟨#[],a,[]⟩).memory:=
 laidMetH_of_parts3 (fuel:=8) (laidMet_of_run' 8 (by kernel_rfl) (by kernel_rfl)) (by kernel_rfl) (by kernel_rfl)
end
end Go.Proofs.YtmlgonbhoknoiaaGreatDoor
