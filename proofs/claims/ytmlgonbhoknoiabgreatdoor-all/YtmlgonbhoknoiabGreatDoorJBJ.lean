import Derived.Test.YtmlgonbhoknoiabGreatDoorJBD
import Derived.Test.YtmlgonbhoknoiabGreatDoorJBE
import Derived.Test.YtmlgonbhoknoiabGreatDoorJBI
set_option maxHeartbeats 8000000
set_option maxRecDepth 100000
set_option linter.all false
namespace Go.Proofs.YtmlgonbhoknoiabGreatDoor
open Go.RowKit Go.Proofs.Tryz
section
attribute [local go_sem ↓] Go.wp_at_zero Go.wp_at_succ
def w7 (b:ai)(a:Nat):(Int×Int×Int)×ai:=if(aP (a:Int)).1.op=0 then((0,2,a),b)else g8 b (eY (aP (a:Int)).1) a
def w6 (b:ai)(a:wj×P):(Int×Int×Int)×ai:=if a.1.f=0 then w7 {b with b:=a.2} a.1.w else((0,l4 a.1.f 0,a.1.Yn),{b with b:=a.2})
def eI (a:ai):(Int×Int×Int)×ai:=w6 a (br a.b a.f a.V3)
def Qu (a:Int)(b:D):ac 117 #[j a] (.tuple #[aV (aP a).1,j (aP a).2]) b:=by rw[ma];exact qC a b
def xW (a:ai)(c:Nat)(b:Int)(d:Nat):(Int×Int)×ai:=
 if b=-1 then((0,0),{a with V3:=c})else((1,b),{a with f:=hW a.f b.toNat false a.V3 d,V3:=hX a.f b.toNat false})
def dn (a:ai):(Int×Int)×ai:=
 if a.wait=true/\bQ a.f a.b&&&a.f.enable=0 then((3,0),a)
 else if hg a.f a.b=-1 then xW (eI {a with wait:=false}).2 (eI {a with wait:=false}).1.1.toNat (eI {a with wait:=false}).1.2.1 (eI {a with wait:=false}).1.2.2.toNat
 else((2,hg a.f a.b),{a with wait:=false,f:=hW a.f (hg a.f a.b).toNat true a.V3 0,V3:=hX a.f (hg a.f a.b).toNat true})
def aeA (a:ai)(b:a.wait=false):{a with wait:=false}=a:=by cases a;simp at b;simp[b]
def aeu (b c d h f:Nat)(a:ai)(v:ey a)(aT:hg a.f a.b=-1\/∃P:Nat,hg a.f a.b=P/\P<=31)(i n:Nat)(ao:Int)(aQ:ao=-1\/∃aD:Nat,ao=aD/\aD<=31)(k:ai)(aA:ay k.f)(aB:eI {a with wait:=false}=(((i:Int),ao,(n:Int)),k))(am:∀W,Hid (V W b c d h f {a with wait:=false})->Calls prog 321 #[I b] W fun w r=>w=.returned (cx (eI {a with wait:=false}).1)/\V r b c d h f (eI {a with wait:=false}).2/\Kept [b,c,d,h,f] W r)(x:D)(C:Hid (V x b c d h f a)):
 Calls prog 242 #[I b] x fun w r=>w=.returned (.agg #[j (dn a).1.1,j (dn a).1.2])/\V r b c d h f (dn a).2/\Kept [b,c,d,h,f] x r:=by
 obtain⟨an,al⟩:∃an:Ending->D->Prop,an=fun w r=>w=.returned (.agg #[j (dn a).1.1,j (dn a).1.2])/\V r b c d h f (dn a).2/\Kept [b,c,d,h,f] x r:=⟨_,rfl⟩;rw[<-al];have aq:∀w r,w=.returned (.agg #[j (dn a).1.1,j (dn a).1.2])/\V r b c d h f (dn a).2/\Kept [b,c,d,h,f] x r->an w r:=by rw[al];exact fun _ _ T=>T
 obtain⟨⟨⟨d0,d1⟩,ar⟩,e⟩:∃aM,aM=dn a:=⟨_,rfl⟩;rw[<-e]at aq;unfold dn at e;rw[aB]at e am;unfold xW at e;dsimp only at aq e;have af:=l am;clear am aB al;unfold cx gB at af;dsimp only at af;have a1:=C.out.lt;have a2:=C.out.Wt.lt;have a3:=C.out.Wt.Ww;have a4:=C.out.Xc;have a5:=C.out.WW.lt;have a0:=v.V3;have c1:=C.out.c1;have c3:=C.out.c3;have c4:=C.out.c4;have aZ:¬b=x.heap.size:=J;have O:=l (fun W (A:V W b c d h f a)=>acb d c f a.f a.b v.soft v.b.enable v.f.enable W (l A.WW) (l A.Wt));have Z:=l (fun W (A:V W b c d h f {a with wait:=false})=>ab0 d c f a.f a.b v.soft v.b.enable v.f.enable v.f.V9 W (l A.WW) (l A.Wt));have ag:=l (fun P T W (A:V W b c d h f {a with wait:=false})=>EX d c a.f v.f P T true a.V3 0 W (l A.WW));have au:=l (fun P T W (A:V W b c d h f k)=>EX d c k.f aA P T false k.V3 n W (l A.WW));have K:=l (C.out.alloc (.cells #[j 0,j 0] 45));have Y:=bf.new x [j 0,j 0] 45;have X:Kept [b,c,d,h,f] x (x.alloc (.cells #[j 0,j 0] 45)):=dC;clear v aA;go_enter func242,ntmps242;cases H:a.wait
 . rw[z (by rw[H];simp)]at e;have M:Hid (V (x.alloc (.cells #[j 0,j 0] 45)) b c d h f {a with wait:=false}):=by rw[aeA a H];exact K
   rw[H]at c4;have ak:=Y;have aj:=X;clear K Y X H O;exact LA
 . rw[H]at c4;by_cases U:bQ a.f a.b&&&a.f.enable=0
   . rw[B ⟨H,U⟩]at e;have az:=e;simp only[bK]at az;obtain⟨⟨rfl,rfl⟩,rfl⟩:=az;clear e;simp only[U]at O;go_wp2_with fail;refine(O.out _ K.out).mono ?_;rintro w aF ⟨rfl,G⟩;have g:=K.out.kept (Below.kept G []);have L:=Y.kept (Below.kept G []);have ac:=X.trans ((Below.kept G []).mono F);exact LB
   . rw[z (fun aN=>U aN.2)]at e;simp only[U]at O;clear H;go_wp2_with fail;refine(O.out _ K.out).mono ?_;rintro w aF ⟨rfl,G⟩;have ap:=l (K.out.kept (Below.kept G []));have aE:=Y.kept (Below.kept G []);have aC:=X.trans ((Below.kept G []).mono F);obtain⟨-,aW,-,-,aX,-,aY,-,-,-,-,-,-,-,-⟩:=ap.out;have M:=l (ap.out.XU false);have ak:=aE.more (F:=[b]) ((Kept.refl [b] aF).Xb 4 (.bool false)) ad;have aj:=aC.Xb 4 (.bool false);clear K Y X ap aE aC U O;exact LA
def dy (a:ai):(Int×Int)×ai:=((dn {a with f:=fT a.f}).1,{(dn {a with f:=fT a.f}).2 with f:=cY (dn {a with f:=fT a.f}).2.f (decide ((dn {a with f:=fT a.f}).1.1=0))})
def ab7 (b d c g f:Nat)(a:ai)(v:ay (dn {a with f:=fT a.f}).2.f)(ST:∀W,Hid (V W b d c g f {a with f:=fT a.f})->Calls prog 242 #[I b] W fun o h=>o=.returned (.agg #[j (dn {a with f:=fT a.f}).1.1,j (dn {a with f:=fT a.f}).1.2])/\V h b d c g f (dn {a with f:=fT a.f}).2/\Kept [b,d,c,g,f] W h)(k:D)(i:Hid (V k b d c g f a)):
 Calls prog 171 #[I b] k fun o h=>o=.returned (.agg #[j (dy a).1.1,j (dy a).1.2])/\V h b d c g f (dy a).2/\Kept [b,d,c,g,f] k h:=by
 have am:=i.out.lt;have an:=i.out.Wt.lt;have ao:=i.out.Wt.Ww;have ap:=i.out.Xc;have aq:=i.out.WW.lt;have c1:=i.out.c1;have al:¬b=k.heap.size:=J;have P:=l (fun W (w:V W b d c g f a)=>ab6 c d a.f W (l w.WW));have t:=l ST;unfold dy;clear ST;obtain⟨⟨⟨e,p⟩,s⟩,K⟩:∃ah,ah=dn {a with f:=fT a.f}:=⟨_,rfl⟩;simp only[<-K]at t v|-;try dsimp only at t v|-
 clear K;obtain⟨u,x⟩:=y (decide (e=0));have au:(e==0)=u:=by rw[x];by_cases Q:e=0<;>simp[Q]
 have G:=l (fun W (w:V W b d c g f s)=>abL c d s.f v u W (l w.WW));simp only[<-x]at|-;obtain⟨ak,H⟩:=y (cY s.f u);simp only[<-H]at G|-;clear H x;have N:=l (i.out.alloc (.cells #[j 0,j 0] 45));have Y:=bf.new k [j 0,j 0] 45;have S:Kept [b,d,c,g,f] k (k.alloc (.cells #[j 0,j 0] 45)):=dC;go_enter func171,ntmps171;go_wp2_with fail;refine(P.out _ N.out).mono ?_;rintro o av ⟨rfl,R,z⟩;have aj:=l (N.out.XE z R);have Z:=Y.more z ad;have T:=S.trans (z.mono F);go_wp2_with fail;refine(t.out _ aj).mono ?_;rintro o O ⟨rfl,r,L⟩;have aa:=Z.more L ad;have U:=T.trans L;have q:=l (r.alloc (.cells #[j e,j p] 45)).drew;have A:=(bf.new O [j e,j p] 45).drew;go_upto_region 3 with fail;go_region_held3 (fun h=>h.cell? ⟨b,1,none⟩=some (I c)/\h.cell? ⟨O.heap.size,0,none⟩=some (j e)) (first|exact⟨q.out.c1,A.cell 0 _ rfl⟩|exact⟨E.out.c1,B.cell 0 _ rfl⟩) (first|(go_at_call 243;refine(G.out _ q.out).mono ?_;rintro o w3 ⟨rfl,M,n⟩;have E:=l (q.out.XE n M);have B:=A.more n (by simp;have:=r.WW.lt;omega)));all_goals
  have E:=l (q.out.XE n M);have B:=A.more n (by simp;have:=r.WW.lt;omega);have C:=(aa.alloc (.cells #[j e,j p] 45)).drew.more n ad;have X:=(U.alloc (.cells #[j e,j p] 45)).drew.trans (n.mono F);have ar:=B.cell 1 _ rfl;have ac:=C.cell 0 _ rfl;have ae:=C.cell 1 _ rfl;obtain⟨-,af,ag⟩:=id C;go_wp2_with fail;refine ab (v:=.agg #[j e,j p]) (by simp[results,results171,go_sem,ac,ae,af,ag]) rfl ⟨rfl,?_,?_⟩
  . repeat(first|(with_reducible exact E.out)|(with_reducible refine V.alloc ?_ _)|(with_reducible refine V.drew ?_)|(with_reducible refine V.other _ _ _ ?_ m m m m m))
  . exact X.setCell (ch aL) _ |>.setCell (ch aL) _
def fv :Nat->Nat->ai->Nat×ai
 |0,r,a=>(r,a)
 |b+1,r,a=>fv b (if(dy a).1.1=0 then r+1 else r) (dy a).2
def ab4 (n t u w v:Nat)(g:ai)(C:ai->Prop)(R:C g)(P:∀m,C m->C (dy m).2)(Q:∀m,C m->∀W,Hid (V W n t u w v m)->Calls prog 171 #[I n] W fun N A=>N=.returned (.agg #[j (dy m).1.1,j (dy m).1.2])/\V A n t u w v (dy m).2/\Kept [n,t,u,w,v] W A)(a:Nat)(aa:a<=4096)(E:D)(H:Hid (V E n t u w v g)):
 Calls prog 172 #[I n,j a] E fun N A=>N=.returned (.tuple #[j (fv a 0 g).1,j 0])/\V A n t u w v (fv a 0 g).2/\Kept [n,t,u,w,v] E A:=by
 have T:=l P;have U:=l Q;clear P Q;have ac:decide ((a:Int)<0)=false:=bL;have ad:decide ((a:Int)>4096)=false:=M;obtain⟨d,K⟩:=y (fv a 0 g);rw[<-K];have G:=l K;have F:=l R;clear K R;go_enter func172,ntmps172;go_wp2_with fail;go_loopw [6,7] (fun p J wr=>∃(r i:Nat) (c:ai),i<=a/\r<=i/\p=j r/\J=j i/\Hid (C c)/\Hid (V wr n t u w v c)/\Hid (Kept [n,t,u,w,v] E wr)/\Hid (d=fv (a-i) r c)) (fun _ J _=>a- (intOf J).toNat);case atStart=>exact LG
 case round=>
  obtain⟨r,i,c,Y,ab,rfl,rfl,L,h,f,e⟩:=hrel;clear G F H;by_cases Z:i<a
  . have X:decide ((i:Int)< (a:Int))=true:=M;have k:Hid (d=fv (a- (i+1)) (if(dy c).1.1=0 then r+1 else r) (dy c).2):=by
     show d=_;rw[e.out,show a-i=(a- (i+1))+1 by omega];rfl
    clear e;have ST:=l (U.out c L.out wr h);have q:=l (T.out c L.out);obtain⟨⟨⟨s,p⟩,o⟩,S⟩:∃m,m=dy c:=⟨_,rfl⟩;simp only[<-S]at ST q k;try dsimp only at ST q k
    clear S L;by_cases b:s=0
    . have x:Hid (d=fv (a- (i+1)) (r+1) o):=by show d=_;rw[k.out,B b]
      exact LC
    . have x:Hid (d=fv (a- (i+1)) r o):=by show d=_;rw[k.out,z b]
      exact LD
  . exact LF
def Vl {b:Q}(a:ay b):k9 b<4294967296:=by
 have c:=a.Ws;have d:=a.WC;have e:=a.WM;have f:=a.sum;have g:=a.WT;unfold k9;omega
def VB {b:Q}(a:ay b):fw b<4294967296:=by
 have c:=a.Ws;have d:=a.WC;have e:=a.WM;have f:=a.sum;have g:=a.WT;have h:=a.Wd;have i:=a.Wq;have j:=a.Wl;have k:=a.WJ;have l:=a.WL;have m:=a.WS;have n:=a.WX;unfold fw;omega
theorem Qo {b:Q}{c:P}(a:ay b)(j:b.soft<=546)(g:aS c)(k:Int):bB b c k<4294967296:=by
 have e:=ql b c j;have h:∀d f:Nat,d<4294967296->(d&&&f)<4294967296:=fun d f i=>bJ gN i;unfold bB;generalize bQ b c=l at e|-;repeat' refine b2 ?_ ?_
 all_goals first
  |exact Vl a|exact VB a|exact h _ _ a.enable|exact h _ _ e|exact e
  |exact a.WH|exact a.WA|exact a.WR|exact a.Wu|exact a.WD|exact a.WI|exact a.Wf|exact a.WG|exact a.V9|exact a.enable|exact a.Wz|exact a.Wp|exact a.Xf|exact a.WK|exact a.Wm|exact a.Wx|exact a.WB|exact a.Wa|exact a.Wg|exact a.ret|exact a.We|exact g.time|exact g.Wh|decide
def BN {a:Q}{b:P}(d:ay a)(f:a.soft<=546)(e:aS b)(c:Int):gs a b c<4294967296:=by
 unfold gs;refine b2 ?_ (Qo d f e c);have g:(a.soft&&&512)<=512:=iR;have h:aI (bQ a b) 512<=bQ a b:=h0 _ _;have i:bQ a b<4096:=by
  unfold bQ;refine b2 (yK (n:=12) ?_ R) ?_
  . show _<4096;exact sm
  . exact sm
 omega
def Td {b:ai}(a:ey b)(i:ak)(e:aT i):kJ b i<4294967296:=by
 have c:=BN a.f a.soft a.b i.V2;have d:G (nD b i):=by
  unfold nD;refine b2 (a.WE _) ?_;have:=e.V1;omega
 unfold kJ;exact b2 (ft _ _ 32 c d) (b2 (bJ (h0 _ _) c) d)
def okB {c:ai}(a:ey c){b:P}(d:aS b):ey {c with b:=b}:=⟨d,a.f,a.soft,a.x,a.WE,a.V3,a.res⟩
def adz (d e f i h:Nat)(b:ai)(c:ey b)(a:Nat)(n:¬(aP (a:Int)).1.op=0)(W:D)(m:Hid (V W d e f i h b)):
 Calls prog 369 #[I d,ag (eY (aP (a:Int)).1),j a] W fun o k=>o=.returned (cx (g8 b (eY (aP (a:Int)).1) a).1)/\V k d e f i h (g8 b (eY (aP (a:Int)).1) a).2/\Kept [d,e,f,i,h] W k:=by
 have g:=wG (a:Int) n;have l:=nF (a:Int) g.2;exact ady d e f i h b c _ l.1 ⟨g.1.1,g.1.2.1⟩ g.1.2.2 (Td c _ l.1) (BN c.f c.soft c.b _) a W m
def adC (d e f n i:Nat)(b:ai)(t:ey b)(q:D)(v:Hid (V q d e f n i b)):
 Calls prog 321 #[I d] q fun c p=>c=.returned (cx (eI b).1)/\V p d e f n i (eI b).2/\Kept [d,e,f,n,i] q p:=by
 obtain⟨aT,h⟩:=y (fun c p=>c=.returned (cx (eI b).1)/\V p d e f n i (eI b).2/\Kept [d,e,f,n,i] q p:Ending->D->Prop);rw[<-h];have U:∀c p,c=.returned (cx (eI b).1)/\V p d e f n i (eI b).2/\Kept [d,e,f,n,i] q p->aT c p:=m7;obtain⟨⟨⟨d0,d1,d2⟩,a6⟩,a⟩:∃aS,aS=eI b:=⟨_,rfl⟩;rw[<-a]at U;have a9:=v.out.lt;have ba:=v.out.Wt.lt;have bb:=v.out.Wt.Ww;have bc:=v.out.Xc;have bd:=v.out.WW.lt;have aC:=t.V3;have c3:=v.out.c3;have a8:¬d=q.heap.size:=J;have aZ:=l (v.out.alloc (.cells #[j 0,j 0,j 0] 248));have aX:=bf.new q [j 0,j 0,j 0] 248;have aW:Kept [d,e,f,n,i] q (q.alloc (.cells #[j 0,j 0,j 0] 248)):=dC;have X:=l mD;unfold cx gB at U X;unfold eI w6 br at a;dsimp only at U;have Y:=l (fun W af=>E7 d e f n i b t.b t.f b.V3 aC W af);have ay:=sZ b.b b.f b.V3 aC;have L:=nO t.b b.f b.V3;obtain⟨⟨⟨K,f1⟩,P⟩,au⟩:∃ac,ac=cj b.b b.f b.V3:=⟨_,rfl⟩;simp only[<-au]at Y ay L a;try dsimp only at Y ay L a
 obtain⟨w,aB⟩:=y ((b.V3+2)%4294967296);have aA:G w:=J;have aJ:Hid (∀W,O 368 #[j ((b.V3:Int)+2)] (j w) W):=l (fun W=>by rw[show(w:Nat)=am ((b.V3:Int)+2)by unfold am;omega];exact fW _ W);have Z:=l (fun W af=>E7 d e f n i {b with b:=P} L t.f w aA W af);have az:=sZ P b.f w aA;have ah:=nO L b.f w;rw[<-aB]at a;obtain⟨⟨⟨ar,f2⟩,aR⟩,av⟩:∃ac,ac=cj P b.f w:=⟨_,rfl⟩;simp only[<-av]at Z az ah a;try dsimp only at Z az ah a
 obtain⟨T,aD⟩:=y (K%4);have be:(K:Int).tmod 4=(T:Int):=fc;rw[<-aD]at a;have HR:=l t;clear h au av aB t aD;go_enter func321,ntmps321;go_wp2_with fail;refine(Y.out _ aZ).mono ?_;rintro c bi ⟨rfl,aq,aw⟩;have al:=l aq;have ak:=aX.more aw ad;have aj:=aW.trans (aw.mono ze);have a7:=aq.c3;by_cases Q:f1=0
 . rw[B Q]at a;subst Q;by_cases ae:T=3
   . rw[B ae]at a;have aU:T=3:=ae;subst aU;go_wp2_with(go_at_call 368;refine(aJ.out _).mono ?_;rintro c N ⟨rfl,r⟩;rw[r];clear r N);refine(Z.out _ al).mono ?_;rintro c bj ⟨rfl,aQ,ax⟩;have aG:=l aQ;have aF:=ak.more ax ad;have aE:=aj.trans (ax.mono ze);by_cases R:f2=0
     . rw[B R]at a;dsimp only at a;rw[B rfl]at a;subst R;obtain⟨k,S⟩:=y (K+ar*65536);have bg:(K:Int)+(ar:Int)*65536=(k:Int):=J;rw[<-S]at a;clear S;have ap:=aG;have ao:=aF;have an:=aE;have aO:=ah;obtain⟨aH,aK⟩:=y (aR);exact LH
     . rw[z R]at a;dsimp only at a;rw[z R]at a;simp only[bK]at a;obtain⟨⟨rfl,rfl,rfl⟩,rfl⟩:=a;have aY:((f2:Int) !=0)=true:=M;have aa:=l (q3 f2 0);go_wp2_with(go_at_call 366;refine(aa.out _).mono ?_;rintro c N ⟨rfl,r⟩;rw[r];clear r N);refine(X.out _ _ _).mono ?_;rintro c a0 ⟨rfl,u⟩;have x:=aF.kept (Below.kept u []);have g:=aG.out.kept (Below.kept u []);have s:=aE.trans ((Below.kept u []).mono F);exact vW
   . rw[z ae]at a;have bh:((T:Int)==3)=false:=M;obtain⟨k,S⟩:=y (K);subst S;try dsimp only at a
     rw[B rfl]at a;have ap:=al;have ao:=ak;have an:=aj;have aO:=L;obtain⟨aH,aK⟩:=y (P);exact LH
 . rw[z Q]at a;dsimp only at a;rw[z Q]at a;simp only[bK]at a;obtain⟨⟨rfl,rfl,rfl⟩,rfl⟩:=a;have aY:((f1:Int) !=0)=true:=M;have aa:=l (q3 f1 0);go_wp2_with(go_at_call 366;refine(aa.out _).mono ?_;rintro c N ⟨rfl,r⟩;rw[r];clear r N);refine(X.out _ _ _).mono ?_;rintro c a0 ⟨rfl,u⟩;have x:=ak.kept (Below.kept u []);have g:=al.out.kept (Below.kept u []);have s:=aj.trans ((Below.kept u []).mono F);exact vW
end
def CC {a:N}(n:aj a)(u:b0 a)(d:Nat)(c i:Bool):
 eI (aD a d c i)=((if(a8 a).1.2.1=-1 then((a8 a).2.V3:Int)else 0,(a8 a).1.2.1,((a8 a).1.2.2:Int)),aD {(a8 a).2 with V3:=a.V3} d (c ||decide ((a8 a).1.2.1=-1/\cL (a8 a).1.1=1)) (i ||decide ((a8 a).1.2.1=-1/\cL (a8 a).1.1=4))):=by
 have l:=sU n.ok.b (S a) a.V3;unfold eI a8 w6;rw[show br (aD a d c i).b (aD a d c i).f (aD a d c i).V3=br a.b (S a) a.V3 from rfl];generalize br a.b (S a) a.V3=b at l;by_cases h:b.1.f=0
 . rw[B h,B h];have o:aj (a.V7 b.2):=n.V7 l;rw[show({aD a d c i with b:=b.2}:ai)=aD (a.V7 b.2) d c i from rfl];generalize p:a.V7 b.2=f at o;have t:a.V3=f.V3:=by rw[<-p];rfl
   have v:b0 f:=by rw[<-p];exact u
   rw[t];unfold w7;by_cases j:(aP (b.1.w:Int)).1.op=0
   . rw[B j];by_cases g:(aP (b.1.w:Int)).2=0
     . rw[B g];unfold mh;rw[Qk f _ _ (show(eY (aP (b.1.w:Int)).1).op=0 from j)];simp
     . rw[z g];simp
   . rw[z j];obtain⟨⟨w,x,y⟩,g⟩:=wG (b.1.w:Int) j;have s:=(nF (b.1.w:Int) g).1;rw[B g,Qx o v (eY (aP (b.1.w:Int)).1) s w x y];have k:=B1 f (eY (aP (b.1.w:Int)).1) b.1.w;generalize eY (aP (b.1.w:Int)).1=q at k;unfold mh;generalize bg f q b.1.w=r at k;by_cases e:r.1.1=-1
     . rw[B e,B e];dsimp only;rw[B e,<-k]
     . rw[z e,z e];dsimp only;rw[z e,<-k];simp[e]
 . rw[z h,z h];have A:=kN b.1.f 0;have m:¬a6 b.1.f 0=-1:=J;dsimp only;rw[z m];simp only[m,o3,oz,o2];rfl
def RQ {b:N}(f:aj b)(a:¬(a8 b).1.2.1=-1):(a8 b).2.V3=b.V3:=by
 unfold a8 at a|-;split
 . next e=>
   rw[B e]at a;split
   . next d=>
     rw[B d]at a;unfold mh at a|-;split
     . next c=>rw[B c]at a;exact absurd c a
     . exact B1 _ _ _
   . rfl
 . rfl
def b0.Xn {X:N}(b:b0 X)(a c:Nat):b0 (a5 X a c):=by unfold a5;split<;>exact b
def b0.XW (X:N):b0 (hq X):=by unfold b0 hq;simp
def Ql {b:N}(a:b0 b)(c:ak)(j:Nat):b0 (bg b c j).2:=by
 have h:∀f,b0 (b.V7 f):=fun _=>a;unfold bg;split
 . exact a.Xn _ _
 split
 . exact a
 split
 . unfold bT jg;split
   . exact(h _).Xn _ _
   . exact a
 split
 . unfold cz la;split<;>exact a
 split
 . unfold bG;split
   . have e:=aeL b.b (S b) (b.x.getD c.V1 0) (aJ c.op);generalize cS b.b (S b) (b.x.getD c.V1 0) (aJ c.op)=d at e;unfold jb;split
     . next i=>
       have g:=e i;have k:2147483648<=d.1.1:=HB;unfold g6;dsimp only;split
       . unfold kW b0;dsimp only;have:¬d.1.1=0:=by omega
         simp[this]
       . split
         . unfold hU;exact b0.XW _
         . unfold kG;exact b0.Xn (X:=bY (b.V7 d.2) _) a _ _
     . exact a
   . exact a
 split
 . exact a
 split
 . exact a
 split
 . unfold dR;dsimp only;split
   . rw[tW];exact a.Xn _ _
   . exact a.Xn _ _
 split
 . unfold fS mm my;dsimp only;split
   . exact b0.XW _
   . split
     . exact b0.XW _
     . split<;>exact a
 . exact a
def CD {X:N}(d:b0 X):b0 (a8 X).2:=by
 have b:∀c,b0 (X.V7 c):=fun _=>d;unfold a8;generalize br X.b (S X) X.V3=a;split
 . split
   . unfold mh;have:=Ql (b a.2) (eY (aP (a.1.w:Int)).1) a.1.w;split
     . exact this
     . exact this
   . exact b _
 . exact b _
def OY {c:N}(d:b0 c):b0 (bV c).2:=by
 have h:∀(a:N) (b f:Nat),b0 a->b0 (iI a b f):=fun a b f e=>by unfold iI iM iL;split<;>exact e
 have g:∀(a:N) (b:Nat),b0 a->b0 (iK a b):=fun a b e=>by unfold iK iM iL;split<;>exact e
 unfold bV;split
 . exact d
 . split
   . unfold ks;split
     . exact CD (X:=aH c) d
     . exact h _ _ _ (CD (X:=aH c) d)
   . exact g _ _ d
def Vq {a:N}(b:b0 a):b0 (cJ a).2:=OY b
def Cv (a b:Nat)(c:G a)(d:G b):(iv a b).1=eH a 1/\(iv a b).2=eG a b 1:=by
 unfold iv eH eG;split
 . exact pL
 . exact pL
def QM {c:N}(f:aj c)(b:Nat)(a:Int)(g:a=0\/a=1\/a=4)(r:Bool):
 cY (ax c b (decide (a=1)) (decide (a=4))) r=ax (l7 c r (b |||a.toNat)) b (decide (a=1)) (decide (a=4)):=by
 have h:=Cv c.c.Wy c.c.WN f.ok.Wy f.ok.WN;have i:=Cv c.c.ret c.c.We f.ok.ret f.ok.We;have j:(decide (b%2=0)&&!decide (a=1))=!aa (b |||a.toNat) 0:=by
  unfold aa;rw[p8];rcases g with d|d|d<;>subst d<;>rcases gg b with e|e<;>simp[e]
 have k:(decide (b/4%2=0)&&!decide (a=4))=!aa (b |||a.toNat) 2:=by
  unfold aa;rw[p8];rcases g with d|d|d<;>subst d<;>rcases gg (b/4)with e|e<;>simp[e]
 unfold cY kP kO l7 fL;rw[<-j,<-k];rw[show(ax c b (decide (a=1)) (decide (a=4))).held=b from rfl,show(ax c b (decide (a=1)) (decide (a=4))).W6=decide (a=1)from rfl];generalize m:(decide (b%2=0)&&!decide (a=1))=p;cases p
 . simp only[eh,cP];rw[show(ax c b (decide (a=1)) (decide (a=4))).held=b from rfl,show(ax c b (decide (a=1)) (decide (a=4))).W7=decide (a=4)from rfl,Bool.and_assoc];exact L0
 . simp only[if_true];rw[show(ax c b (decide (a=1)) (decide (a=4))).Wa=c.c.Wy from rfl,show(ax c b (decide (a=1)) (decide (a=4))).Wg=c.c.WN from rfl,h.1,h.2];rw[show(ax c b (decide (a=1)) (decide (a=4))).W7=decide (a=4)from rfl,Bool.and_assoc];exact L0
def Qt (a:ak):cL a=0\/cL a=1\/cL a=4:=by
 unfold cL;repeat' split
 all_goals simp
def Eo {a:N}(g:aj a)(p:b0 a)(b:Nat):
 dn (aD a b false false)=(((bV a).1.1,(bV a).1.2.1),aD (bV a).2 b (decide ((bV a).1.2.2=1)) (decide ((bV a).1.2.2=4))):=by
 have r:({aD a b false false with wait:=false}:ai)=aD (aH a) b false false:=rfl;have h:aj (aH a):={g with ok:={g.ok with}};have q:b0 (aH a):=p;have n:cw (aH a)=cw a:=rfl;have o:hg (aD a b false false).f (aD a b false false).b=cw a:=Dd g b false false;have l:bQ (aD a b false false).f (aD a b false false).b&&& (aD a b false false).f.enable=b1 a:=by
  rw[show bQ (aD a b false false).f (aD a b false false).b=dU a from s4 g b false false];rfl
 unfold dn bV;rw[o,l,n,r];by_cases e:a.waits=true/\b1 a=0
 . rw[B (show(aD a b false false).wait=true/\b1 a=0 from e),B (by simp[e])];rfl
 . rw[z (show ¬((aD a b false false).wait=true/\b1 a=0)from e),z (show ¬((a.waits&&decide (b1 a=0))=true)from by simpa using e)];by_cases f:cw a=-1
   . rw[B f,B f,CC h q];have j:=RQ h;have i:=mi h;generalize a8 (aH a)=d at j i;unfold xW ks;dsimp only;by_cases c:d.1.2.1=-1
     . rw[B c,B c,B c];simp only[c,true_and,uH];rfl
     . rw[z c,z c];simp only[c,o3,oz,o2];have k:({d.2 with V3:=(aH a).V3}:N)=d.2:=by rw[<-j c]
       rw[k];refine rF rfl ?_;have:=VV i.1 d.1.2.1.toNat d.1.2.2 b false false (by have:=i.2.2;omega);exact this
   . rw[z f,z f];refine rF rfl ?_;have:=qk a;have:=VY h (cw a).toNat b false false m;exact this
def Ek (a:N)(c:Nat)(b i:Bool):({aD a c b i with f:=fT (aD a c b i).f}:ai)=aD a a.c.W8 false false:=rfl
def OZ (a:N):(bV a).1.2.2=0\/(bV a).1.2.2=1\/(bV a).1.2.2=4:=by
 unfold bV;split
 . exact hy rfl
 . split
   . unfold ks;split
     . exact Qt _
     . exact hy rfl
   . exact hy rfl
def Vp {a:N}(b:aj a)(e:b0 a)(d:Nat)(c i:Bool):
 dy (aD a d c i)=((cJ a).1,aD (cJ a).2 a.c.W8 (decide ((bV a).1.2.2=1)) (decide ((bV a).1.2.2=4))):=by
 unfold dy;rw[Ek,Eo b e];unfold cJ;dsimp only;refine rF rfl ?_;have:=QM (sJ b).1 a.c.W8 _ (OZ a) (decide ((bV a).1.1=0));dsimp only;rw[show(aD (bV a).2 a.c.W8 (decide ((bV a).1.2.2=1)) (decide ((bV a).1.2.2=4))).f=ax (bV a).2 a.c.W8 (decide ((bV a).1.2.2=1)) (decide ((bV a).1.2.2=4))from rfl,this];rfl
def bv (c:ai)(a:N):Prop:=aj a/\b0 a/\∃b d i,b<4294967296/\c=aD a b d i
def bv.ok {d:ai}{e:N}(f:bv d e):ey d:=by
 obtain⟨g,j,a,c,i,h,rfl⟩:=f;exact tm g h c i
def bv.step {a:ai}{b:N}(e:bv a b):bv (dy a).2 (cJ b).2/\(dy a).1=(cJ b).1:=by
 obtain⟨c,d,f,g,i,h,rfl⟩:=e;rw[Vp c d];exact⟨⟨El c,Vq d,_,_,_,jz c.ok.W8 R,rfl⟩,rfl⟩
def Vt {a:ai}{c:N}(e:bv a c):ay (dn {a with f:=fT a.f}).2.f:=by
 obtain⟨b,d,f,g,i,h,rfl⟩:=e;rw[Ek,Eo b d];exact(tm (sJ b).1 (jz b.ok.W8 R) _ _).f
def aer (c d e g f:Nat)(b:ai)(a:N)(x:bv b a)(o:D)(P:Hid (V o c d e g f b)):
 Calls prog 242 #[I c] o fun t h=>t=.returned (.agg #[j (dn b).1.1,j (dn b).1.2])/\V h c d e g f (dn b).2/\Kept [c,d,e,g,f] o h:=by
 have G:=x.ok;obtain⟨n,w,v,m,i,y,q⟩:=x;have s:({b with wait:=false}:ai)=aD (aH a) v m i:=by rw[q];rfl
 have k:aj (aH a):={n with ok:={n.ok with}};have M:b0 (aH a):=w;have H:ey {b with wait:=false}:=by rw[s];exact tm k y m i
 have R:hg b.f b.b=cw a:=by rw[q];exact Dd n v m i
 have Q:=qk a;have E:∀W,Hid (V W c d e g f {b with wait:=false})->Calls prog 321 #[I c] W fun t h=>t=.returned (cx (eI {b with wait:=false}).1)/\V h c d e g f (eI {b with wait:=false}).2/\Kept [c,d,e,g,f] W h:=fun W J=>adC c d e g f _ H W J;have O:=mi k;have r:∃(p u:Nat) (l:ai),eI {b with wait:=false}=(((p:Int),(a8 (aH a)).1.2.1,(u:Int)),l)/\ay l.f:=by
  rw[s,CC k M];have A:=(tm (O.1.Zo k.ok.V3 k.X8) y (m ||decide ((a8 (aH a)).1.2.1=-1/\cL (a8 (aH a)).1.1=1)) (i ||decide ((a8 (aH a)).1.2.1=-1/\cL (a8 (aH a)).1.1=4))).f;by_cases C:(a8 (aH a)).1.2.1=-1
  . exact⟨(a8 (aH a)).2.V3,(a8 (aH a)).1.2.2,_,by rw[B C],A⟩
  . exact⟨0,(a8 (aH a)).1.2.2,_,by rw[z C];rfl,A⟩
 obtain⟨p,u,l,r,F⟩:=r;clear q s n w;refine aeu c d e g f b G ?_ p u _ ?_ l F r E o P
 . by_cases L:hg b.f b.b=-1
   . exact .inl L
   . exact .inr ⟨(cw a).toNat,by omega,by omega⟩
 . by_cases K:(a8 (aH a)).1.2.1=-1
   . exact .inl K
   . exact .inr ⟨(a8 (aH a)).1.2.1.toNat,by omega,by omega⟩
def bv.start {a:ai}{b:N}(f:bv a b):bv {a with f:=fT a.f} b:=by
 obtain⟨c,e,h,g,i,j,d⟩:=f;exact⟨c,e,b.c.W8,false,false,jz c.ok.W8 R,by rw[d];rfl⟩
def EW (b c d f e:Nat)(a:ai)(i:N)(k:bv a i)(g:D)(m:Hid (V g b c d f e a)):
 Calls prog 171 #[I b] g fun n h=>n=.returned (.agg #[j (dy a).1.1,j (dy a).1.2])/\V h b c d f e (dy a).2/\Kept [b,c,d,f,e] g h:=
 ab7 b c d f e a (Vt k) (fun W l=>aer b c d f e _ i k.start W l) g m
theorem bv.run :∀(f r:Nat) {e:ai} {d:N},bv e d->bv (fv f r e).2 (gD f r d).2/\(fv f r e).1=(gD f r d).1
 |0,r,e,d,g=>⟨g,rfl⟩
 |f+1,r,e,d,g=>by
  have i:=g.step
  have h:(dy e).1.1=(cJ d).1.1:=congrArg Prod.fst i.2
  show bv (fv f (if(dy e).1.1=0 then r+1 else r) (dy e).2).2 (gD f (if(cJ d).1.1=0 then r+1 else r) (cJ d).2).2/\_
  rw[h]
  have:=bv.run f (if(cJ d).1.1=0 then r+1 else r) i.1
  refine⟨this.1,?_⟩
  show(fv f (if(dy e).1.1=0 then r+1 else r) (dy e).2).1=(gD f (if(cJ d).1.1=0 then r+1 else r) (cJ d).2).1
  rw[h]
  exact this.2
def ab2 (a c d g f:Nat)(b:ai)(n:N)(o:bv b n)(e:Nat)(q:e<=4096)(k:D)(r:Hid (V k a c d g f b)):
 Calls prog 172 #[I a,j e] k fun s m=>s=.returned (.tuple #[j (fv e 0 b).1,j 0])/\V m a c d g f (fv e 0 b).2/\Kept [a,c,d,g,f] k m:=
 ab4 a c d g f b (fun h=>∃i,bv h i) ⟨n,o⟩ (fun h ⟨i,l⟩=>⟨_,l.step.1⟩) (fun h ⟨i,l⟩ W p=>EW a c d g f h i l W p) e q k r
section
attribute [local go_sem ↓] Go.wp_at_zero Go.wp_at_succ
def xM (a:ai):ai:={b:=qc a.b,f:=kK,x:=List.replicate 32 0,V3:=2147483648,wait:=false,res:=0}
def gM :Array Value:=#[j 0,j 0,j 0,j 0,j 0,j 0,j 0,j 0,j 0,j 0,j 0,j 0,j 0,j 0,j 0,j 0,j 0,j 0,j 0,j 0,j 0,j 0,j 0,j 0,j 0,j 0,j 0,j 0,j 0,j 0,j 0,j 0]
def xl :∀a,(Instr.makeSlice 24 (.int .i64 32) (.int .i64 32)).run prog a=.ok (.slice (some ⟨a.heap.size,0,none⟩) 32 32) (a.alloc (.cells gM 3)):=fun _=>by kernel_rfl
def yx (a:Nat)(b:a<32):gM[a]?=some (j 0):=by
 have:a=0\/a=1\/a=2\/a=3\/a=4\/a=5\/a=6\/a=7\/a=8\/a=9\/a=10\/a=11\/a=12\/a=13\/a=14\/a=15\/a=16\/a=17\/a=18\/a=19\/a=20\/a=21\/a=22\/a=23\/a=24\/a=25\/a=26\/a=27\/a=28\/a=29\/a=30\/a=31:=by omega
 rcases this with rfl|rfl|rfl|rfl|rfl|rfl|rfl|rfl|rfl|rfl|rfl|rfl|rfl|rfl|rfl|rfl|rfl|rfl|rfl|rfl|rfl|rfl|rfl|rfl|rfl|rfl|rfl|rfl|rfl|rfl|rfl|rfl<;>rfl
def V.reset {f:D}{a k l O t:Nat}{o:ai}(b:V f a k l O t o)(p:Nat):V (((((f.setCell ⟨a,2,none⟩ (.slice (some ⟨f.heap.size,0,none⟩) 32 32)).setCell ⟨a,3,none⟩ (j 2147483648)).setCell ⟨a,4,none⟩ (.bool false)).setCell ⟨a,5,none⟩ (j 0)).alloc (.cells gM p)) a k l f.heap.size t {o with x:=List.replicate 32 0,V3:=2147483648,wait:=false,res:=0}:=by
 have r:=b.nodup;have P:=b.lt;have Q:=b.Wt.lt;have R:=b.Wt.Ww;have S:=b.WW.lt;simp only[gR,dB,eR,eS,gh,iS,gf]at r;obtain⟨⟨G,H,U,K⟩,⟨L,W,M⟩,⟨X,N⟩,T,_⟩:=r;obtain⟨c,d⟩:=y ((((f.setCell ⟨a,2,none⟩ (.slice (some ⟨f.heap.size,0,none⟩) 32 32)).setCell ⟨a,3,none⟩ (j 2147483648)).setCell ⟨a,4,none⟩ (.bool false)).setCell ⟨a,5,none⟩ (j 0));have q:Kept [a] f c:=by rw[d];exact(((qm F).setCell (.inl F) _).setCell (.inl F) _).setCell (.inl F) _
 have s:c.heap.size=f.heap.size:=by rw[d];simp
 have w:c.cell? ⟨a,0,none⟩=some (I k):=by rw[d,bZ _ _ _ _ (by simp),bZ _ _ _ _ (by simp),bZ _ _ _ _ (by simp),bZ _ _ _ _ (by simp)];exact b.V8
 have x:c.cell? ⟨a,1,none⟩=some (I l):=by rw[d,bZ _ _ _ _ (by simp),bZ _ _ _ _ (by simp),bZ _ _ _ _ (by simp),bZ _ _ _ _ (by simp)];exact b.c1
 have z:c.cell? ⟨a,2,none⟩=some (.slice (some ⟨f.heap.size,0,none⟩) 32 32):=by rw[d,bZ _ _ _ _ (by simp),bZ _ _ _ _ (by simp),bZ _ _ _ _ (by simp)];exact jy _ _ _ b.c2
 have A:c.cell? ⟨a,3,none⟩=some (j 2147483648):=by rw[d,bZ _ _ _ _ (by simp),bZ _ _ _ _ (by simp)];exact jy _ _ _ ((bZ _ _ _ _ F).trans b.c3)
 have B:c.cell? ⟨a,4,none⟩=some (.bool false):=by rw[d,bZ _ _ _ _ (by simp)];exact jy _ _ _ (((bZ _ _ _ _ F).trans (bZ _ _ _ _ F)).trans b.c4)
 have C:c.cell? ⟨a,5,none⟩=some (j 0):=by rw[d];exact jy _ _ _ ((((bZ _ _ _ _ F).trans (bZ _ _ _ _ F)).trans (bZ _ _ _ _ F)).trans b.c5)
 have E:dX c a:=fun i=>by rw[d];simp[b.Wb]
 have u:=b.Wt.more q ad ad;have v:=b.WW.more q ad;rw[<-d];have e:Kept [] c (c.alloc (.cells gM p)):=dC;have h:a<c.heap.size:=J;refine⟨(e.cell (p:=⟨a,0,none⟩) h F).trans w,(e.cell (p:=⟨a,1,none⟩) h F).trans x,(e.cell (p:=⟨a,2,none⟩) h F).trans z,(e.cell (p:=⟨a,3,none⟩) h F).trans A,(e.cell (p:=⟨a,4,none⟩) h F).trans B,(e.cell (p:=⟨a,5,none⟩) h F).trans C,fun i=>(e.frozen (p:=⟨a,i,none⟩) h F).trans (E i),by simp;omega,u.more e F F,v.more e F,by simp,?_,?_,by simp;omega,?_⟩
 . intro m g;have n:m<32:=pR;rw[<-s,fJ _ _ _ _ _ rfl];show _=some (j (((List.replicate 32 0)[m]'(by simpa using n):Nat):Int));rw[List.getElem_replicate];exact yx m n
 . intro i;rw[<-s,fo _ _ _ _ _ rfl]
 . simp only[gR,dB,eR,eS,gh,iS,gf,uN];exact⟨⟨G,H,by omega,K⟩,⟨L,by omega,M⟩,⟨by omega,N⟩,by omega⟩
def adX (e a c M k:Nat)(i:ai)(b:D)(d:Hid (V b e a c M k i)):
 Calls prog 176 #[I e] b fun v m=>v=.returned (.tuple #[])/\(∃n,b.heap.size<=n/\V m e a c n k (xM i))/\Kept [e,a,c] b m:=by
 have N:=d.out.V8;have c1:=d.out.c1;have G:=xl;obtain⟨P,H⟩:=y (Obj.cells gM 3);rw[<-H]at G;have o:=l (E2 a k i.b b (l d.out.Wt));go_enter func176,ntmps176;go_wp2_with fail;refine o.out.mono ?_;rintro K L ⟨rfl,s,f⟩;have h:=d.out.Xy (f.mono F) s;clear o;have d1:=h.c1;have p:=l (E3 c a _ L (l h.WW));have q:=l h;clear h;go_wp2_with fail;refine p.out.mono ?_;rintro K u ⟨rfl,t,g⟩;have j:=q.out.XE g t;clear p;obtain⟨-,-,w,x,z,A,B,O,-,-,-,-,-,-,-⟩:=id j;have r:=l j;clear j q;go_wp2_with fail;go_end0;have C:=r.out.reset 3;have E:Kept [e,a,c] b u:=(f.mono F).trans (g.mono F);have J:=fD f.size g.size;clear f g d s t w x z A B r;refine⟨rfl,⟨u.heap.size,J,?_⟩,?_⟩
 . unfold xM;exact C
 . exact((((E.setCell (.inl F) _).setCell (.inl F) _).setCell (.inl F) _).setCell (.inl F) _).alloc _
def V.box {w:D}{bb fb xb rb:Nat}{B:P}{C:Q}{x:List Nat}(d:ap w bb rb B)(k:T w fb bb C)(o:x.length=32)(n:∀a (q:a<x.length),w.cell? ⟨xb,a,none⟩=some (j x[a]))(p:∀c,w.frozen? ⟨xb,c,none⟩=false)(e:xb<w.heap.size)(m:[bb,fb,xb,rb].Nodup)(f g:Nat)(h:Bool)(i:Nat):
 V (w.alloc (.cells #[I bb,I fb,.slice (some ⟨xb,0,none⟩) 32 32,j f,.bool h,j g] i)) w.heap.size bb fb xb rb ⟨B,C,x,f,h,g⟩:=by
 have b:Kept [] w (w.alloc (.cells #[I bb,I fb,.slice (some ⟨xb,0,none⟩) 32 32,j f,.bool h,j g] i)):=dC;have r:=d.lt;have s:=d.Ww;have t:=k.lt;refine⟨?_,?_,?_,?_,?_,?_,fun c=>fo _ _ _ _ _ rfl,by simp,d.more b F F,k.more b F,o,fun a l=>(b.cell (p:=⟨xb,a,none⟩) e F).trans (n a l),fun c=>(b.frozen (p:=⟨xb,c,none⟩) e F).trans (p c),aQ e b.size,?_⟩;case refine_7=>
  refine gR.2 ⟨?_,m⟩;simp only[dB,eR,eS,gh];omega
 all_goals (rw[fJ _ _ _ _ _ rfl];rfl)
def te (a:Nat):ai:=⟨BX a,kK,List.replicate 32 0,2147483648,false,0⟩
def adQ (h:Nat)(G:h<=65536)(W:D):
 Calls prog 167 #[j h] W fun e t=>(∃s d w z i,e=.returned (.tuple #[I s,j 0])/\W.heap.size<=s/\W.heap.size<=d/\W.heap.size<=w/\W.heap.size<=z/\W.heap.size<=i/\V t s d w z i (te h))/\Kept [] W t:=by
 have L:=xl;have u:=l (ack h G W);go_enter func167,ntmps167;go_wp2_with fail;refine u.out.mono ?_;rintro e k ⟨⟨d,i,rfl,C,E,f⟩,b⟩;have v:=l (acu d k);clear u;go_wp2_with fail;refine v.out.mono ?_;rintro e a ⟨rfl,m,c⟩;clear v;have q:Kept [] W k:=⟨b.os,b.tape,b.output,b.size,fun o n _=>b.block o n⟩;have r:Kept [] k a:=⟨c.os,c.tape,c.output,c.size,fun o n _=>c.block o n⟩;have x:=f.more r F F;have M:=f.lt;have N:=f.Ww;have O:=m.lt;have J:=f.ne;have K:=q.size;have p:Kept [] a (a.alloc (.cells gM 3)):=dC;have B:=l (V.box (x:=List.replicate 32 0) (xb:=a.heap.size) (x.more p F F) (m.more p F) F (by
  intro y g;have A:y<32:=pR;rw[List.getElem_replicate,fJ _ _ _ _ _ rfl];exact yx y A) (fun P=>fo _ _ _ _ _ rfl) F (by
  simp only[gR,dB,eR,eS,gh,iS,gf,uN];exact⟨⟨by omega,by omega,J⟩,⟨by omega,by omega⟩,by omega⟩) 2147483648 0 false 187)
 have H:Hid (Kept [] W a):=l (q.trans r);clear f b m c q r x p;go_wp2_with fail;go_ret2;refine⟨⟨a.heap.size+1,d,k.heap.size,a.heap.size,i,rfl,by omega,C,K,by omega,E,?_⟩,(H.out.alloc _).alloc _⟩;have e:(a.alloc (.cells gM 3)).heap.size=a.heap.size+1:=bL;have:=B.out;rw[e]at this;exact this
def acm (a:Int)(b:a<0\/65536<a)(d:D):
 O 238 #[j a] (.tuple #[.pointer none,j 2]) d:=by
 rcases b with b|b
 . have c:decide (a<0)=true:=gZ;exact L5
 . have c:decide (a<0)=false:=M;have e:decide (65536<a)=true:=gZ;exact L5
def adR (a:Int)(b:a<0\/65536<a)(c:D):
 O 167 #[j a] (.tuple #[.pointer none,j 2]) c:=by
 have d:=l (acm a b c);clear b;go_enter func167,ntmps167;go_wp2_with fail;refine d.out.mono ?_;exact ajE
end
end Go.Proofs.YtmlgonbhoknoiabGreatDoor
