import Derived.Test.YtmlgonbhoknoiaaGreatDoorJBC
set_option maxHeartbeats 8000000
set_option maxRecDepth 100000
set_option linter.all false
namespace Go.Proofs.YtmlgonbhoknoiaaGreatDoor
open Go.RowKit Go.Proofs.Tryz
section
attribute [local go_sem ↓] Go.wp_at_zero Go.wp_at_succ
def aec (f r p h t:Nat)(e:ai)(w:ey e)(i:ak)(E:aU i)(aS:1<=i.op/\i.op<=70)(aj:61<=i.op/\i.op<=66->0<=i.V2/\i.V2<=4095)(aw:kG e i<4294967296)(av:gt e.f e.b i.V2<4294967296)(z:Nat)(u:D)(G:Hid (V u f r p h t e)):
 Calls prog 367 #[I f,ag i,j z] u fun H k=>H=.returned (cz (g9 e i z).1)/\V k f r p h t (g9 e i z).2/\Kept [f,r,p,h,t] u k:=by
 have O:=l (fun ap P af aP W c=>aei f r p h t e w i E ap P af aP W c);have ST:=l (fun ap P af W c=>ae7 f r p h t e w i E ap P af W c);have aD:=l (fun b W c=>acV f r p h t e w i E b W c);have aG:=l (fun b aR P W c=>ac6 f r p h t e w i E b aR P z aw av W c);have aK:=l (fun b W c=>aek f r p h t e w i E b z W c);obtain⟨a,x,n,o,q,B⟩:=i;have bi:=G.out.lt;have bj:=G.out.Wt.lt;have bk:=G.out.Wt.Ww;have bl:=G.out.Xc;have bm:=G.out.WW.lt;have bb:=w.V3;have U:=w.WE n;have an:=w.WE o;have a9:=w.f.mode;obtain⟨ax,ay,az,aV,aW,aX⟩:=id E;dsimp only at aS aj ax ay az aX aV aW;have bd:(0:Int)<=(n:Int):=J;have be:(n:Int)<32:=J;have bf:(0:Int)<=(o:Int):=J;have bh:(o:Int)<32:=J;have c3:=G.out.c3;have ba:¬f=u.heap.size:=J;have a8:¬p=u.heap.size:=J;have M:=l ((G.out.alloc (.cells #[j a,j x,j n,j o,j q,j B] 53)).alloc (.cells #[j 0,j 0,j 0] 245));have X:=(bg.new u [j a,j x,j n,j o,j q,j B] 53).alloc (.cells #[j 0,j 0,j 0] 245);have aB:=bg.Yo u (.cells #[j a,j x,j n,j o,j q,j B] 53) [j 0,j 0,j 0] 245;have aA:Kept [f,r,p,h,t] u ((u.alloc (.cells #[j a,j x,j n,j o,j q,j B] 53)).alloc (.cells #[j 0,j 0,j 0] 245)):=o9;have aq:=M.out.XM n ay;have ar:=M.out.XM o az;have aY:=l (fun Q W c=>qN f r p h t e x ax Q W c);have aC:=l oh;have aI:=l mF;obtain⟨aM,g⟩:=y (fun T k=>T=.returned (cz (g9 e ⟨a,x,n,o,q,B⟩ z).1)/\V k f r p h t (g9 e ⟨a,x,n,o,q,B⟩ z).2/\Kept [f,r,p,h,t] u k:Ending->D->Prop);rw[<-g];have au:∀T k,T=.returned (cz (g9 e ⟨a,x,n,o,q,B⟩ z).1)/\V k f r p h t (g9 e ⟨a,x,n,o,q,B⟩ z).2/\Kept [f,r,p,h,t] u k->aM T k:=m3;obtain⟨⟨⟨bo,bp,bq⟩,a5⟩,d⟩:∃aH,aH=g9 e ⟨a,x,n,o,q,B⟩ z:=⟨_,rfl⟩;rw[<-d]at au;unfold cz gC at *;unfold g9 g3 gK at d;dsimp only at d au;clear g w E aw av;obtain⟨A,al⟩:∃Q,Q=e.x.getD n 0:=⟨_,rfl⟩;obtain⟨S,ao⟩:∃Q,Q=e.x.getD o 0:=⟨_,rfl⟩;rw[<-al]at U aq;rw[<-ao]at an ar;simp only[<-al,<-ao]at d;have bc:=word_lt ((A:Int)+q);have aO:=l (fX ((A:Int)+q));have aT:=word_lt q;have aN:=l (fX q);have aJ:=l (acu a A S U an);have aF:=l (xM a A S U an);have aE:=l (xM a A _ U aT);generalize am ((A:Int)+q)=Y at *;generalize am q=wi at *;generalize holds a A S=aQ at *;generalize cp a A S=br at *;generalize cp a A wi=bs at *;have bn:(Y:Int).tmod 2=((Y%2:Nat):Int):=fc;have bt:Y%2<2:=J;generalize Y%2=v2 at *;clear al ao;unfold ag;dsimp only;go_enter func367,ntmps367;go_upto_region 3 with fail;go_region_held3 (fun k=>k.cell? ⟨f,2,none⟩=some (.slice (some ⟨h,0,none⟩) 32 32)/\k.cell? ⟨u.heap.size,2,none⟩=some (j n)/\k.cell? ⟨h,n,none⟩=some (j A)) (first|exact⟨M.out.drew.c2,X.drew.cell 2 _ rfl,by simpa using aq⟩) (fail);all_goals
  go_upto_region 4 with fail;go_region_held3 (fun k=>k.cell? ⟨f,2,none⟩=some (.slice (some ⟨h,0,none⟩) 32 32)/\k.cell? ⟨u.heap.size,3,none⟩=some (j o)/\k.cell? ⟨h,o,none⟩=some (j S)) (first|exact⟨M.out.drew.drew.c2,X.drew.drew.cell 3 _ rfl,by simpa using ar⟩) (fail);all_goals
   clear aq ar;have N:=l M.out.drew.drew;have K:=X.drew.drew;have aa:=aB.drew.drew;have Z:=aA.drew.drew;clear M X aB aA;have aZ:=K.cell 0 _ rfl;have a0:=K.cell 1 _ rfl;have a1:=K.cell 2 _ rfl;have a2:=K.cell 3 _ rfl;have a3:=K.cell 4 _ rfl;have a4:=K.cell 5 _ rfl;rcases(show(a=1\/a=2)\/(a=3)\/(a=4)\/(a=5\/a=6\/a=7\/a=8\/a=9\/a=10)\/(a=11)\/(a=12)\/(a=13)\/(a=14)\/(a=15)\/(a=16)\/(a=17)\/(a=18)\/(a=19\/a=20\/a=21\/a=22\/a=23\/a=24\/a=25\/a=26\/a=27)\/(a=28\/a=29\/a=30\/a=31\/a=32\/a=33\/a=34\/a=35\/a=36\/a=37\/a=42\/a=43\/a=44\/a=45\/a=46\/a=47\/a=48\/a=49)\/(a=38\/a=39)\/(a=40\/a=41)\/(a=50\/a=51\/a=52\/a=53\/a=54\/a=55\/a=56\/a=57\/a=58\/a=59\/a=60)\/(a=61\/a=62\/a=63\/a=64\/a=65\/a=66)\/(a=67\/a=68\/a=69\/a=70)from by omega)with b|b|b|b|b|b|b|b|b|b|b|b|b|b|b|b|b|b|b
   . rcases b with rfl|rfl;all_goals
      exact Na
   . rcases b with rfl;all_goals
      exact Na
   . rcases b with rfl;all_goals
      simp at d;obtain⟨⟨rfl,rfl,rfl⟩,rfl⟩:=d;go_wp2_with(go_at_call 366;refine(aO.out _).mono ?_;rintro H C ⟨rfl,s⟩;rw[s];clear s C);exact vL
   . rcases b with rfl|rfl|rfl|rfl|rfl|rfl;all_goals
      cases aQ;all_goals
       simp at d;obtain⟨⟨rfl,rfl,rfl⟩,rfl⟩:=d;go_wp2_with(go_at_call 395;refine(aJ.out _).mono ?_;rintro H C ⟨rfl,s⟩;rw[s];clear s C);exact Nb
   . rcases b with rfl;all_goals
      simp[er]at d;have v:=l (fun W c=>O.out 1 R R true W c);exact i1
   . rcases b with rfl;all_goals
      simp[er]at d;have v:=l (fun W c=>O.out 2 R R true W c);exact i1
   . rcases b with rfl;all_goals
      simp[er]at d;have v:=l (fun W c=>O.out 4 R R false W c);exact i1
   . rcases b with rfl;all_goals
      simp[er]at d;have v:=l (fun W c=>O.out 1 R R false W c);exact i1
   . rcases b with rfl;all_goals
      simp[er]at d;have v:=l (fun W c=>O.out 2 R R false W c);exact i1
   . rcases b with rfl;all_goals
      simp[er]at d;have v:=l (fun W c=>ST.out 1 R R W c);exact i1
   . rcases b with rfl;all_goals
      simp[er]at d;have v:=l (fun W c=>ST.out 2 R R W c);exact i1
   . rcases b with rfl;all_goals
      simp[er]at d;have v:=l (fun W c=>ST.out 4 R R W c);exact i1
   . rcases b with rfl|rfl|rfl|rfl|rfl|rfl|rfl|rfl|rfl;all_goals
      simp at d;obtain⟨⟨rfl,rfl,rfl⟩,rfl⟩:=d;go_wp2_with(first|(go_at_call 366;refine(aN.out _).mono ?_;rintro H C ⟨rfl,s⟩;rw[s];clear s C)|(go_at_call 398;refine(aE.out _).mono ?_;rintro H C ⟨rfl,s⟩;rw[s];clear s C));exact vL
   . rcases b with rfl|rfl|rfl|rfl|rfl|rfl|rfl|rfl|rfl|rfl|rfl|rfl|rfl|rfl|rfl|rfl|rfl|rfl;all_goals
      simp at d;obtain⟨⟨rfl,rfl,rfl⟩,rfl⟩:=d;go_wp2_with(go_at_call 398;refine(aF.out _).mono ?_;rintro H C ⟨rfl,s⟩;rw[s];clear s C);exact vL
   . rcases b with rfl|rfl;all_goals
      simp at d;obtain⟨⟨rfl,rfl,rfl⟩,rfl⟩:=d;go_wp2_with fail;exact Nb
   . rcases b with rfl|rfl;all_goals
      simp at d;obtain⟨⟨rfl,rfl,rfl⟩,rfl⟩:=d;have a6:=N.out.c1;have a7:=N.out.WW.c1;go_wp2_with fail;refine(aI.out _ _ _).mono ?_;rintro H bu ⟨rfl,ah⟩;have L:=aa.kept (Below.kept ah []);have ab:=N.out.kept (Below.kept ah []);have ae:=Z.trans ((Below.kept ah []).mono F);exact vM
   . rcases b with rfl|rfl|rfl|rfl|rfl|rfl|rfl|rfl|rfl|rfl|rfl;all_goals
      simp[er]at d;have v:=l (fun W c=>aD.out co W c);exact i1
   . rcases b with rfl|rfl|rfl|rfl|rfl|rfl;all_goals
      simp[er]at d;have v:=l (fun W c=>aG.out co (aj R).1 (aj R).2 W c);exact i1
   . rcases b with rfl|rfl|rfl|rfl;all_goals
      simp[er]at d;have v:=l (fun W c=>aK.out co W c);exact i1
end
end Go.Proofs.YtmlgonbhoknoiaaGreatDoor
