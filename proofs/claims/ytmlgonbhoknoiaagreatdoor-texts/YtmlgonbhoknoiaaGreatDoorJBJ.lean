import Derived.Test.YtmlgonbhoknoiaaGreatDoorJBD
import Derived.Test.YtmlgonbhoknoiaaGreatDoorJBE
import Derived.Test.YtmlgonbhoknoiaaGreatDoorJBI
set_option maxHeartbeats 8000000
set_option maxRecDepth 100000
set_option linter.all false
namespace Go.Proofs.YtmlgonbhoknoiaaGreatDoor
open Go.RowKit Go.Proofs.Tryz
section
attribute [local go_sem ↓] Go.wp_at_zero Go.wp_at_succ
def wK (b:ai)(a:Nat):(Int×Int×Int)×ai:=if(aP (a:Int)).1.op=0 then((0,2,a),b)else g9 b (eY (aP (a:Int)).1) a
def wJ (b:ai)(a:vR×P):(Int×Int×Int)×ai:=if a.1.f=0 then wK {b with b:=a.2} a.1.w else((0,l6 a.1.f 0,a.1.Yn),{b with b:=a.2})
def eI (a:ai):(Int×Int×Int)×ai:=wJ a (bs a.b a.f a.V3)
def PY (a:Int)(b:D):aa 88 #[j a] (.tuple #[aW (aP a).1,j (aP a).2]) b:=by rw[mc];exact ql a b
def xA (a:ai)(c:Nat)(b:Int)(d:Nat):(Int×Int)×ai:=
 if b=-1 then((0,0),{a with V3:=c})else((1,b),{a with f:=hW a.f b.toNat false a.V3 d,V3:=hX a.f b.toNat false})
def dq (a:ai):(Int×Int)×ai:=
 if a.wait=true/\bS a.f a.b&&&a.f.enable=0 then((3,0),a)
 else if hh a.f a.b=-1 then xA (eI {a with wait:=false}).2 (eI {a with wait:=false}).1.1.toNat (eI {a with wait:=false}).1.2.1 (eI {a with wait:=false}).1.2.2.toNat
 else((2,hh a.f a.b),{a with wait:=false,f:=hW a.f (hh a.f a.b).toNat true a.V3 0,V3:=hX a.f (hh a.f a.b).toNat true})
def afe (a:ai)(b:a.wait=false):{a with wait:=false}=a:=by cases a;simp at b;simp[b]
def ae8 (b c d g f:Nat)(a:ai)(v:ey a)(aT:hh a.f a.b=-1\/∃P:Nat,hh a.f a.b=P/\P<=31)(i n:Nat)(ao:Int)(aQ:ao=-1\/∃aD:Nat,ao=aD/\aD<=31)(k:ai)(aA:ay k.f)(aB:eI {a with wait:=false}=(((i:Int),ao,(n:Int)),k))(am:∀W,Hid (V W b c d g f {a with wait:=false})->Calls prog 314 #[I b] W fun w r=>w=.returned (cz (eI {a with wait:=false}).1)/\V r b c d g f (eI {a with wait:=false}).2/\Kept [b,c,d,g,f] W r)(x:D)(C:Hid (V x b c d g f a)):
 Calls prog 236 #[I b] x fun w r=>w=.returned (.agg #[j (dq a).1.1,j (dq a).1.2])/\V r b c d g f (dq a).2/\Kept [b,c,d,g,f] x r:=by
 obtain⟨an,al⟩:∃an:Ending->D->Prop,an=fun w r=>w=.returned (.agg #[j (dq a).1.1,j (dq a).1.2])/\V r b c d g f (dq a).2/\Kept [b,c,d,g,f] x r:=⟨_,rfl⟩;rw[<-al];have aq:∀w r,w=.returned (.agg #[j (dq a).1.1,j (dq a).1.2])/\V r b c d g f (dq a).2/\Kept [b,c,d,g,f] x r->an w r:=by rw[al];exact fun _ _ T=>T
 obtain⟨⟨⟨d0,d1⟩,ar⟩,e⟩:∃aM,aM=dq a:=⟨_,rfl⟩;rw[<-e]at aq;unfold dq at e;rw[aB]at e am;unfold xA at e;dsimp only at aq e;have af:=l am;clear am aB al;unfold cz gC at af;dsimp only at af;have a1:=C.out.lt;have a2:=C.out.Wt.lt;have a3:=C.out.Wt.Ww;have a4:=C.out.Xc;have a5:=C.out.WW.lt;have a0:=v.V3;have c1:=C.out.c1;have c3:=C.out.c3;have c4:=C.out.c4;have aZ:¬b=x.heap.size:=J;have O:=l (fun W (A:V W b c d g f a)=>acS d c f a.f a.b v.soft v.b.enable v.f.enable W (l A.WW) (l A.Wt));have Z:=l (fun W (A:V W b c d g f {a with wait:=false})=>acH d c f a.f a.b v.soft v.b.enable v.f.enable v.f.V9 W (l A.WW) (l A.Wt));have ag:=l (fun P T W (A:V W b c d g f {a with wait:=false})=>ED d c a.f v.f P T true a.V3 0 W (l A.WW));have au:=l (fun P T W (A:V W b c d g f k)=>ED d c k.f aA P T false k.V3 n W (l A.WW));have K:=l (C.out.alloc (.cells #[j 0,j 0] 46));have Y:=bg.new x [j 0,j 0] 46;have X:Kept [b,c,d,g,f] x (x.alloc (.cells #[j 0,j 0] 46)):=dE;clear v aA;go_enter func236,ntmps236;cases H:a.wait
 . rw[z (by rw[H];simp)]at e;have M:Hid (V (x.alloc (.cells #[j 0,j 0] 46)) b c d g f {a with wait:=false}):=by rw[afe a H];exact K
   rw[H]at c4;have ak:=Y;have aj:=X;clear K Y X H O;exact Lg
 . rw[H]at c4;by_cases U:bS a.f a.b&&&a.f.enable=0
   . rw[B ⟨H,U⟩]at e;have az:=e;simp only[bM]at az;obtain⟨⟨rfl,rfl⟩,rfl⟩:=az;clear e;simp only[U]at O;go_wp2_with fail;refine(O.out _ K.out).mono ?_;rintro w aF ⟨rfl,G⟩;have h:=K.out.kept (Below.kept G []);have L:=Y.kept (Below.kept G []);have ab:=X.trans ((Below.kept G []).mono F);exact Lh
   . rw[z (fun aN=>U aN.2)]at e;simp only[U]at O;clear H;go_wp2_with fail;refine(O.out _ K.out).mono ?_;rintro w aF ⟨rfl,G⟩;have ap:=l (K.out.kept (Below.kept G []));have aE:=Y.kept (Below.kept G []);have aC:=X.trans ((Below.kept G []).mono F);obtain⟨-,aW,-,-,aX,-,aY,-,-,-,-,-,-,-,-⟩:=ap.out;have M:=l (ap.out.XU false);have ak:=aE.more (F:=[b]) ((Kept.refl [b] aF).Xb 4 (.bool false)) ad;have aj:=aC.Xb 4 (.bool false);clear K Y X ap aE aC U O;exact Lg
def dA (a:ai):(Int×Int)×ai:=((dq {a with f:=fU a.f}).1,{(dq {a with f:=fU a.f}).2 with f:=c6 (dq {a with f:=fU a.f}).2.f (decide ((dq {a with f:=fU a.f}).1.1=0))})
def acO (b d c g f:Nat)(a:ai)(v:ay (dq {a with f:=fU a.f}).2.f)(ST:∀W,Hid (V W b d c g f {a with f:=fU a.f})->Calls prog 236 #[I b] W fun o h=>o=.returned (.agg #[j (dq {a with f:=fU a.f}).1.1,j (dq {a with f:=fU a.f}).1.2])/\V h b d c g f (dq {a with f:=fU a.f}).2/\Kept [b,d,c,g,f] W h)(k:D)(i:Hid (V k b d c g f a)):
 Calls prog 160 #[I b] k fun o h=>o=.returned (.agg #[j (dA a).1.1,j (dA a).1.2])/\V h b d c g f (dA a).2/\Kept [b,d,c,g,f] k h:=by
 have am:=i.out.lt;have an:=i.out.Wt.lt;have ao:=i.out.Wt.Ww;have ap:=i.out.Xc;have aq:=i.out.WW.lt;have c1:=i.out.c1;have al:¬b=k.heap.size:=J;have P:=l (fun W (w:V W b d c g f a)=>acN c d a.f W (l w.WW));have t:=l ST;unfold dA;clear ST;obtain⟨⟨⟨e,p⟩,s⟩,K⟩:∃ah,ah=dq {a with f:=fU a.f}:=⟨_,rfl⟩;simp only[<-K]at t v|-;try dsimp only at t v|-
 clear K;obtain⟨u,x⟩:=y (decide (e=0));have au:(e==0)=u:=by rw[x];by_cases Q:e=0<;>simp[Q]
 have G:=l (fun W (w:V W b d c g f s)=>acr c d s.f v u W (l w.WW));simp only[<-x]at|-;obtain⟨ak,H⟩:=y (c6 s.f u);simp only[<-H]at G|-;clear H x;have N:=l (i.out.alloc (.cells #[j 0,j 0] 46));have Y:=bg.new k [j 0,j 0] 46;have S:Kept [b,d,c,g,f] k (k.alloc (.cells #[j 0,j 0] 46)):=dE;go_enter func160,ntmps160;go_wp2_with fail;refine(P.out _ N.out).mono ?_;rintro o av ⟨rfl,R,z⟩;have aj:=l (N.out.XE z R);have Z:=Y.more z ad;have T:=S.trans (z.mono F);go_wp2_with fail;refine(t.out _ aj).mono ?_;rintro o O ⟨rfl,r,L⟩;have aa:=Z.more L ad;have U:=T.trans L;have q:=l (r.alloc (.cells #[j e,j p] 46)).drew;have A:=(bg.new O [j e,j p] 46).drew;go_upto_region 3 with fail;go_region_held3 (fun h=>h.cell? ⟨b,1,none⟩=some (I c)/\h.cell? ⟨O.heap.size,0,none⟩=some (j e)) (first|exact⟨q.out.c1,A.cell 0 _ rfl⟩|exact⟨E.out.c1,B.cell 0 _ rfl⟩) (first|(go_at_call 237;refine(G.out _ q.out).mono ?_;rintro o w3 ⟨rfl,M,n⟩;have E:=l (q.out.XE n M);have B:=A.more n (by simp;have:=r.WW.lt;omega)));all_goals
  have E:=l (q.out.XE n M);have B:=A.more n (by simp;have:=r.WW.lt;omega);have C:=(aa.alloc (.cells #[j e,j p] 46)).drew.more n ad;have X:=(U.alloc (.cells #[j e,j p] 46)).drew.trans (n.mono F);have ar:=B.cell 1 _ rfl;have ab:=C.cell 0 _ rfl;have ae:=C.cell 1 _ rfl;obtain⟨-,af,ag⟩:=id C;go_wp2_with fail;refine ac (v:=.agg #[j e,j p]) (by simp[results,results160,go_sem,ab,ae,af,ag]) rfl ⟨rfl,?_,?_⟩
  . repeat(first|(with_reducible exact E.out)|(with_reducible refine V.alloc ?_ _)|(with_reducible refine V.drew ?_)|(with_reducible refine V.other _ _ _ ?_ m m m m m))
  . exact X.setCell (ci aL) _ |>.setCell (ci aL) _
def fw :Nat->Nat->ai->Nat×ai
 |0,r,a=>(r,a)
 |b+1,r,a=>fw b (if(dA a).1.1=0 then r+1 else r) (dA a).2
def acL (n t u w v:Nat)(g:ai)(C:ai->Prop)(R:C g)(P:∀m,C m->C (dA m).2)(Q:∀m,C m->∀W,Hid (V W n t u w v m)->Calls prog 160 #[I n] W fun N A=>N=.returned (.agg #[j (dA m).1.1,j (dA m).1.2])/\V A n t u w v (dA m).2/\Kept [n,t,u,w,v] W A)(a:Nat)(aa:a<=4096)(E:D)(H:Hid (V E n t u w v g)):
 Calls prog 161 #[I n,j a] E fun N A=>N=.returned (.tuple #[j (fw a 0 g).1,j 0])/\V A n t u w v (fw a 0 g).2/\Kept [n,t,u,w,v] E A:=by
 have T:=l P;have U:=l Q;clear P Q;have ac:decide ((a:Int)<0)=false:=bN;have ad:decide ((a:Int)>4096)=false:=M;obtain⟨d,K⟩:=y (fw a 0 g);rw[<-K];have G:=l K;have F:=l R;clear K R;go_enter func161,ntmps161;go_wp2_with fail;go_loopw [6,7] (fun p J wr=>∃(r i:Nat) (c:ai),i<=a/\r<=i/\p=j r/\J=j i/\Hid (C c)/\Hid (V wr n t u w v c)/\Hid (Kept [n,t,u,w,v] E wr)/\Hid (d=fw (a-i) r c)) (fun _ J _=>a- (intOf J).toNat);case atStart=>exact Ll
 case round=>
  obtain⟨r,i,c,Y,ab,rfl,rfl,L,h,f,e⟩:=hrel;clear G F H;by_cases Z:i<a
  . have X:decide ((i:Int)< (a:Int))=true:=M;have k:Hid (d=fw (a- (i+1)) (if(dA c).1.1=0 then r+1 else r) (dA c).2):=by
     show d=_;rw[e.out,show a-i=(a- (i+1))+1 by omega];rfl
    clear e;have ST:=l (U.out c L.out wr h);have q:=l (T.out c L.out);obtain⟨⟨⟨s,p⟩,o⟩,S⟩:∃m,m=dA c:=⟨_,rfl⟩;simp only[<-S]at ST q k;try dsimp only at ST q k
    clear S L;by_cases b:s=0
    . have x:Hid (d=fw (a- (i+1)) (r+1) o):=by show d=_;rw[k.out,B b]
      exact Li
    . have x:Hid (d=fw (a- (i+1)) r o):=by show d=_;rw[k.out,z b]
      exact Lj
  . exact Lk
def VI {b:Q}(a:ay b):k9 b<4294967296:=by
 have c:=a.Ws;have d:=a.WC;have e:=a.WM;have f:=a.sum;have g:=a.WT;unfold k9;omega
def aag {b:Q}(a:ay b):fx b<4294967296:=by
 have c:=a.Ws;have d:=a.WC;have e:=a.WM;have f:=a.sum;have g:=a.WT;have h:=a.Wd;have i:=a.Wq;have j:=a.Wl;have k:=a.WJ;have l:=a.WL;have m:=a.WS;have n:=a.WX;unfold fx;omega
theorem PS {b:Q}{c:P}(a:ay b)(j:b.soft<=546)(g:aT c)(k:Int):bD b c k<4294967296:=by
 have e:=p5 b c j;have h:∀d f:Nat,d<4294967296->(d&&&f)<4294967296:=fun d f i=>bL gO i;unfold bD;generalize bS b c=l at e|-;repeat' refine b3 ?_ ?_
 all_goals first
  |exact VI a|exact aag a|exact h _ _ a.enable|exact h _ _ e|exact e
  |exact a.WH|exact a.WA|exact a.WR|exact a.Wu|exact a.WD|exact a.WI|exact a.Wf|exact a.WG|exact a.V9|exact a.enable|exact a.Wz|exact a.Wp|exact a.Xf|exact a.WK|exact a.Wm|exact a.Wx|exact a.WB|exact a.Wa|exact a.Wg|exact a.ret|exact a.We|exact g.time|exact g.Wh|decide
def Bs {a:Q}{b:P}(d:ay a)(f:a.soft<=546)(e:aT b)(c:Int):gt a b c<4294967296:=by
 unfold gt;refine b3 ?_ (PS d f e c);have g:(a.soft&&&512)<=512:=iQ;have h:aI (bS a b) 512<=bS a b:=h0 _ _;have i:bS a b<4096:=by
  unfold bS;refine b3 (yo (n:=12) ?_ R) ?_
  . show _<4096;exact rX
  . exact rX
 omega
def Ts {b:ai}(a:ey b)(i:ak)(e:aU i):kG b i<4294967296:=by
 have c:=Bs a.f a.soft a.b i.V2;have d:G (nz b i):=by
  unfold nz;refine b3 (a.WE _) ?_;have:=e.V1;omega
 unfold kG;exact b3 (fu _ _ 32 c d) (b3 (bL (h0 _ _) c) d)
def okB {c:ai}(a:ey c){b:P}(d:aT b):ey {c with b:=b}:=⟨d,a.f,a.soft,a.x,a.WE,a.V3,a.res⟩
def aed (d e f i h:Nat)(b:ai)(c:ey b)(a:Nat)(n:¬(aP (a:Int)).1.op=0)(W:D)(m:Hid (V W d e f i h b)):
 Calls prog 367 #[I d,ag (eY (aP (a:Int)).1),j a] W fun o k=>o=.returned (cz (g9 b (eY (aP (a:Int)).1) a).1)/\V k d e f i h (g9 b (eY (aP (a:Int)).1) a).2/\Kept [d,e,f,i,h] W k:=by
 have g:=wj (a:Int) n;have l:=nB (a:Int) g.2;exact aec d e f i h b c _ l.1 ⟨g.1.1,g.1.2.1⟩ g.1.2.2 (Ts c _ l.1) (Bs c.f c.soft c.b _) a W m
def aeg (d e f n i:Nat)(b:ai)(t:ey b)(q:D)(v:Hid (V q d e f n i b)):
 Calls prog 314 #[I d] q fun c p=>c=.returned (cz (eI b).1)/\V p d e f n i (eI b).2/\Kept [d,e,f,n,i] q p:=by
 obtain⟨aT,g⟩:=y (fun c p=>c=.returned (cz (eI b).1)/\V p d e f n i (eI b).2/\Kept [d,e,f,n,i] q p:Ending->D->Prop);rw[<-g];have Z:∀c p,c=.returned (cz (eI b).1)/\V p d e f n i (eI b).2/\Kept [d,e,f,n,i] q p->aT c p:=m3;obtain⟨⟨⟨d0,d1,d2⟩,a6⟩,a⟩:∃aS,aS=eI b:=⟨_,rfl⟩;rw[<-a]at Z;have a9:=v.out.lt;have ba:=v.out.Wt.lt;have bb:=v.out.Wt.Ww;have bc:=v.out.Xc;have bd:=v.out.WW.lt;have aC:=t.V3;have c3:=v.out.c3;have a8:¬d=q.heap.size:=J;have aZ:=l (v.out.alloc (.cells #[j 0,j 0,j 0] 245));have aX:=bg.new q [j 0,j 0,j 0] 245;have aV:Kept [d,e,f,n,i] q (q.alloc (.cells #[j 0,j 0,j 0] 245)):=dE;have U:=l mF;unfold cz gC at Z U;unfold eI wJ bs at a;dsimp only at Z;have X:=l (fun W af=>EN d e f n i b t.b t.f b.V3 aC W af);have ay:=sB b.b b.f b.V3 aC;have L:=nK t.b b.f b.V3;obtain⟨⟨⟨K,f1⟩,P⟩,au⟩:∃ab,ab=ck b.b b.f b.V3:=⟨_,rfl⟩;simp only[<-au]at X ay L a;try dsimp only at X ay L a
 obtain⟨w,aB⟩:=y ((b.V3+2)%4294967296);have aA:G w:=J;have aJ:Hid (∀W,O 366 #[j ((b.V3:Int)+2)] (j w) W):=l (fun W=>by rw[show(w:Nat)=am ((b.V3:Int)+2)by unfold am;omega];exact fX _ W);have Y:=l (fun W af=>EN d e f n i {b with b:=P} L t.f w aA W af);have az:=sB P b.f w aA;have ah:=nK L b.f w;rw[<-aB]at a;obtain⟨⟨⟨ar,f2⟩,aR⟩,av⟩:∃ab,ab=ck P b.f w:=⟨_,rfl⟩;simp only[<-av]at Y az ah a;try dsimp only at Y az ah a
 obtain⟨T,aD⟩:=y (K%4);have be:(K:Int).tmod 4=(T:Int):=fc;rw[<-aD]at a;have HR:=l t;clear g au av aB t aD;go_enter func314,ntmps314;go_wp2_with fail;refine(X.out _ aZ).mono ?_;rintro c bi ⟨rfl,aq,aw⟩;have al:=l aq;have ak:=aX.more aw ad;have aj:=aV.trans (aw.mono yN);have a7:=aq.c3;by_cases Q:f1=0
 . rw[B Q]at a;subst Q;by_cases ae:T=3
   . rw[B ae]at a;have aU:T=3:=ae;subst aU;go_wp2_with(go_at_call 366;refine(aJ.out _).mono ?_;rintro c N ⟨rfl,r⟩;rw[r];clear r N);refine(Y.out _ al).mono ?_;rintro c bj ⟨rfl,aQ,ax⟩;have aG:=l aQ;have aF:=ak.more ax ad;have aE:=aj.trans (ax.mono yN);by_cases R:f2=0
     . rw[B R]at a;dsimp only at a;rw[B rfl]at a;subst R;obtain⟨k,S⟩:=y (K+ar*65536);have bf:(K:Int)+(ar:Int)*65536=(k:Int):=J;rw[<-S]at a;clear S;have ap:=aG;have ao:=aF;have an:=aE;have aO:=ah;obtain⟨aH,aK⟩:=y (aR);exact Lm
     . rw[z R]at a;dsimp only at a;rw[z R]at a;simp only[bM]at a;obtain⟨⟨rfl,rfl,rfl⟩,rfl⟩:=a;have aY:((f2:Int) !=0)=true:=M;have aa:=l (qM f2 0);go_wp2_with(go_at_call 364;refine(aa.out _).mono ?_;rintro c N ⟨rfl,r⟩;rw[r];clear r N);refine(U.out _ _ _).mono ?_;rintro c a0 ⟨rfl,u⟩;have x:=aF.kept (Below.kept u []);have h:=aG.out.kept (Below.kept u []);have s:=aE.trans ((Below.kept u []).mono F);exact vA
   . rw[z ae]at a;have bh:((T:Int)==3)=false:=M;obtain⟨k,S⟩:=y (K);subst S;try dsimp only at a
     rw[B rfl]at a;have ap:=al;have ao:=ak;have an:=aj;have aO:=L;obtain⟨aH,aK⟩:=y (P);exact Lm
 . rw[z Q]at a;dsimp only at a;rw[z Q]at a;simp only[bM]at a;obtain⟨⟨rfl,rfl,rfl⟩,rfl⟩:=a;have aY:((f1:Int) !=0)=true:=M;have aa:=l (qM f1 0);go_wp2_with(go_at_call 364;refine(aa.out _).mono ?_;rintro c N ⟨rfl,r⟩;rw[r];clear r N);refine(U.out _ _ _).mono ?_;rintro c a0 ⟨rfl,u⟩;have x:=ak.kept (Below.kept u []);have h:=al.out.kept (Below.kept u []);have s:=aj.trans ((Below.kept u []).mono F);exact vA
end
def Ch {a:N}(n:aj a)(u:b1 a)(d:Nat)(c i:Bool):
 eI (aD a d c i)=((if(a9 a).1.2.1=-1 then((a9 a).2.V3:Int)else 0,(a9 a).1.2.1,((a9 a).1.2.2:Int)),aD {(a9 a).2 with V3:=a.V3} d (c ||decide ((a9 a).1.2.1=-1/\cN (a9 a).1.1=1)) (i ||decide ((a9 a).1.2.1=-1/\cN (a9 a).1.1=4))):=by
 have l:=sw n.ok.b (S a) a.V3;unfold eI a9 wJ;rw[show bs (aD a d c i).b (aD a d c i).f (aD a d c i).V3=bs a.b (S a) a.V3 from rfl];generalize bs a.b (S a) a.V3=b at l;by_cases h:b.1.f=0
 . rw[B h,B h];have o:aj (a.V7 b.2):=n.V7 l;rw[show({aD a d c i with b:=b.2}:ai)=aD (a.V7 b.2) d c i from rfl];generalize p:a.V7 b.2=f at o;have t:a.V3=f.V3:=by rw[<-p];rfl
   have v:b1 f:=by rw[<-p];exact u
   rw[t];unfold wK;by_cases j:(aP (b.1.w:Int)).1.op=0
   . rw[B j];by_cases g:(aP (b.1.w:Int)).2=0
     . rw[B g];unfold mj;rw[PO f _ _ (show(eY (aP (b.1.w:Int)).1).op=0 from j)];simp
     . rw[z g];simp
   . rw[z j];obtain⟨⟨w,x,y⟩,g⟩:=wj (b.1.w:Int) j;have s:=(nB (b.1.w:Int) g).1;rw[B g,Qj o v (eY (aP (b.1.w:Int)).1) s w x y];have k:=BG f (eY (aP (b.1.w:Int)).1) b.1.w;generalize eY (aP (b.1.w:Int)).1=q at k;unfold mj;generalize bh f q b.1.w=r at k;by_cases e:r.1.1=-1
     . rw[B e,B e];dsimp only;rw[B e,<-k]
     . rw[z e,z e];dsimp only;rw[z e,<-k];simp[e]
 . rw[z h,z h];have A:=kL b.1.f 0;have m:¬a7 b.1.f 0=-1:=J;dsimp only;rw[z m];simp only[m,oP,ov,oO];rfl
def RT {b:N}(f:aj b)(a:¬(a9 b).1.2.1=-1):(a9 b).2.V3=b.V3:=by
 unfold a9 at a|-;split
 . next e=>
   rw[B e]at a;split
   . next d=>
     rw[B d]at a;unfold mj at a|-;split
     . next c=>rw[B c]at a;exact absurd c a
     . exact BG _ _ _
   . rfl
 . rfl
def b1.Xn {X:N}(b:b1 X)(a c:Nat):b1 (a6 X a c):=by unfold a6;split<;>exact b
def b1.XW (X:N):b1 (hr X):=by unfold b1 hr;simp
def PP {b:N}(a:b1 b)(c:ak)(j:Nat):b1 (bh b c j).2:=by
 have h:∀f,b1 (b.V7 f):=fun _=>a;unfold bh;split
 . exact a.Xn _ _
 split
 . exact a
 split
 . unfold bU jd;split
   . exact(h _).Xn _ _
   . exact a
 split
 . unfold cB la;split<;>exact a
 split
 . unfold bI;split
   . have e:=afp b.b (S b) (b.x.getD c.V1 0) (aJ c.op);generalize cV b.b (S b) (b.x.getD c.V1 0) (aJ c.op)=d at e;unfold i8;split
     . next i=>
       have g:=e i;have k:2147483648<=d.1.1:=Hh;unfold g7;dsimp only;split
       . unfold kV b1;dsimp only;have:¬d.1.1=0:=by omega
         simp[this]
       . split
         . unfold hU;exact b1.XW _
         . unfold kB;exact b1.Xn (X:=bZ (b.V7 d.2) _) a _ _
     . exact a
   . exact a
 split
 . exact a
 split
 . exact a
 split
 . unfold dS;dsimp only;split
   . rw[tA];exact a.Xn _ _
   . exact a.Xn _ _
 split
 . unfold fT mo mA;dsimp only;split
   . exact b1.XW _
   . split
     . exact b1.XW _
     . split<;>exact a
 . exact a
def Ci {X:N}(d:b1 X):b1 (a9 X).2:=by
 have b:∀c,b1 (X.V7 c):=fun _=>d;unfold a9;generalize bs X.b (S X) X.V3=a;split
 . split
   . unfold mj;have:=PP (b a.2) (eY (aP (a.1.w:Int)).1) a.1.w;split
     . exact this
     . exact this
   . exact b _
 . exact b _
def OD {c:N}(d:b1 c):b1 (bW c).2:=by
 have h:∀(a:N) (b f:Nat),b1 a->b1 (iH a b f):=fun a b f e=>by unfold iH iL iK;split<;>exact e
 have g:∀(a:N) (b:Nat),b1 a->b1 (iJ a b):=fun a b e=>by unfold iJ iL iK;split<;>exact e
 unfold bW;split
 . exact d
 . split
   . unfold kn;split
     . exact Ci (X:=aH c) d
     . exact h _ _ _ (Ci (X:=aH c) d)
   . exact g _ _ d
def VN {a:N}(b:b1 a):b1 (cL a).2:=OD b
def Ca (a b:Nat)(c:G a)(d:G b):(iu a b).1=eH a 1/\(iu a b).2=eG a b 1:=by
 unfold iu eH eG;split
 . exact pv
 . exact pv
def QG {c:N}(f:aj c)(b:Nat)(a:Int)(g:a=0\/a=1\/a=4)(r:Bool):
 c6 (ax c b (decide (a=1)) (decide (a=4))) r=ax (l9 c r (b |||a.toNat)) b (decide (a=1)) (decide (a=4)):=by
 have h:=Ca c.c.Wy c.c.WN f.ok.Wy f.ok.WN;have i:=Ca c.c.ret c.c.We f.ok.ret f.ok.We;have j:(decide (b%2=0)&&!decide (a=1))=!ab (b |||a.toNat) 0:=by
  unfold ab;rw[pS];rcases g with d|d|d<;>subst d<;>rcases gh b with e|e<;>simp[e]
 have k:(decide (b/4%2=0)&&!decide (a=4))=!ab (b |||a.toNat) 2:=by
  unfold ab;rw[pS];rcases g with d|d|d<;>subst d<;>rcases gh (b/4)with e|e<;>simp[e]
 unfold c6 kN kM l9 fM;rw[<-j,<-k];rw[show(ax c b (decide (a=1)) (decide (a=4))).held=b from rfl,show(ax c b (decide (a=1)) (decide (a=4))).W6=decide (a=1)from rfl];generalize m:(decide (b%2=0)&&!decide (a=1))=p;cases p
 . simp only[ei,cS];rw[show(ax c b (decide (a=1)) (decide (a=4))).held=b from rfl,show(ax c b (decide (a=1)) (decide (a=4))).W7=decide (a=4)from rfl,Bool.and_assoc];exact LF
 . simp only[if_true];rw[show(ax c b (decide (a=1)) (decide (a=4))).Wa=c.c.Wy from rfl,show(ax c b (decide (a=1)) (decide (a=4))).Wg=c.c.WN from rfl,h.1,h.2];rw[show(ax c b (decide (a=1)) (decide (a=4))).W7=decide (a=4)from rfl,Bool.and_assoc];exact LF
def PX (a:ak):cN a=0\/cN a=1\/cN a=4:=by
 unfold cN;repeat' split
 all_goals simp
def D4 {a:N}(g:aj a)(p:b1 a)(b:Nat):
 dq (aD a b false false)=(((bW a).1.1,(bW a).1.2.1),aD (bW a).2 b (decide ((bW a).1.2.2=1)) (decide ((bW a).1.2.2=4))):=by
 have r:({aD a b false false with wait:=false}:ai)=aD (aH a) b false false:=rfl;have h:aj (aH a):={g with ok:={g.ok with}};have q:b1 (aH a):=p;have n:cy (aH a)=cy a:=rfl;have o:hh (aD a b false false).f (aD a b false false).b=cy a:=CT g b false false;have l:bS (aD a b false false).f (aD a b false false).b&&& (aD a b false false).f.enable=b2 a:=by
  rw[show bS (aD a b false false).f (aD a b false false).b=dV a from sF g b false false];rfl
 unfold dq bW;rw[o,l,n,r];by_cases e:a.waits=true/\b2 a=0
 . rw[B (show(aD a b false false).wait=true/\b2 a=0 from e),B (by simp[e])];rfl
 . rw[z (show ¬((aD a b false false).wait=true/\b2 a=0)from e),z (show ¬((a.waits&&decide (b2 a=0))=true)from by simpa using e)];by_cases f:cy a=-1
   . rw[B f,B f,Ch h q];have j:=RT h;have i:=mk h;generalize a9 (aH a)=d at j i;unfold xA kn;dsimp only;by_cases c:d.1.2.1=-1
     . rw[B c,B c,B c];simp only[c,true_and,ul];rfl
     . rw[z c,z c];simp only[c,oP,ov,oO];have k:({d.2 with V3:=(aH a).V3}:N)=d.2:=by rw[<-j c]
       rw[k];refine rf rfl ?_;have:=aaz i.1 d.1.2.1.toNat d.1.2.2 b false false (by have:=i.2.2;omega);exact this
   . rw[z f,z f];refine rf rfl ?_;have:=p4 a;have:=aaL h (cy a).toNat b false false m;exact this
def D0 (a:N)(c:Nat)(b i:Bool):({aD a c b i with f:=fU (aD a c b i).f}:ai)=aD a a.c.W8 false false:=rfl
def OE (a:N):(bW a).1.2.2=0\/(bW a).1.2.2=1\/(bW a).1.2.2=4:=by
 unfold bW;split
 . exact hz rfl
 . split
   . unfold kn;split
     . exact PX _
     . exact hz rfl
   . exact hz rfl
def VM {a:N}(b:aj a)(e:b1 a)(d:Nat)(c i:Bool):
 dA (aD a d c i)=((cL a).1,aD (cL a).2 a.c.W8 (decide ((bW a).1.2.2=1)) (decide ((bW a).1.2.2=4))):=by
 unfold dA;rw[D0,D4 b e];unfold cL;dsimp only;refine rf rfl ?_;have:=QG (si b).1 a.c.W8 _ (OE a) (decide ((bW a).1.1=0));dsimp only;rw[show(aD (bW a).2 a.c.W8 (decide ((bW a).1.2.2=1)) (decide ((bW a).1.2.2=4))).f=ax (bW a).2 a.c.W8 (decide ((bW a).1.2.2=1)) (decide ((bW a).1.2.2=4))from rfl,this];rfl
def bw (c:ai)(a:N):Prop:=aj a/\b1 a/\∃b d i,b<4294967296/\c=aD a b d i
def bw.ok {d:ai}{e:N}(f:bw d e):ey d:=by
 obtain⟨g,j,a,c,i,h,rfl⟩:=f;exact sZ g h c i
def bw.step {a:ai}{b:N}(e:bw a b):bw (dA a).2 (cL b).2/\(dA a).1=(cL b).1:=by
 obtain⟨c,d,f,g,i,h,rfl⟩:=e;rw[VM c d];exact⟨⟨D1 c,VN d,_,_,_,jw c.ok.W8 R,rfl⟩,rfl⟩
def VZ {a:ai}{c:N}(e:bw a c):ay (dq {a with f:=fU a.f}).2.f:=by
 obtain⟨b,d,f,g,i,h,rfl⟩:=e;rw[D0,D4 b d];exact(sZ (si b).1 (jw b.ok.W8 R) _ _).f
def ae5 (c d e g f:Nat)(b:ai)(a:N)(x:bw b a)(o:D)(P:Hid (V o c d e g f b)):
 Calls prog 236 #[I c] o fun t h=>t=.returned (.agg #[j (dq b).1.1,j (dq b).1.2])/\V h c d e g f (dq b).2/\Kept [c,d,e,g,f] o h:=by
 have G:=x.ok;obtain⟨n,w,v,m,i,y,q⟩:=x;have s:({b with wait:=false}:ai)=aD (aH a) v m i:=by rw[q];rfl
 have k:aj (aH a):={n with ok:={n.ok with}};have M:b1 (aH a):=w;have H:ey {b with wait:=false}:=by rw[s];exact sZ k y m i
 have R:hh b.f b.b=cy a:=by rw[q];exact CT n v m i
 have Q:=p4 a;have E:∀W,Hid (V W c d e g f {b with wait:=false})->Calls prog 314 #[I c] W fun t h=>t=.returned (cz (eI {b with wait:=false}).1)/\V h c d e g f (eI {b with wait:=false}).2/\Kept [c,d,e,g,f] W h:=fun W J=>aeg c d e g f _ H W J;have O:=mk k;have r:∃(p u:Nat) (l:ai),eI {b with wait:=false}=(((p:Int),(a9 (aH a)).1.2.1,(u:Int)),l)/\ay l.f:=by
  rw[s,Ch k M];have A:=(sZ (O.1.Zo k.ok.V3 k.X8) y (m ||decide ((a9 (aH a)).1.2.1=-1/\cN (a9 (aH a)).1.1=1)) (i ||decide ((a9 (aH a)).1.2.1=-1/\cN (a9 (aH a)).1.1=4))).f;by_cases C:(a9 (aH a)).1.2.1=-1
  . exact⟨(a9 (aH a)).2.V3,(a9 (aH a)).1.2.2,_,by rw[B C],A⟩
  . exact⟨0,(a9 (aH a)).1.2.2,_,by rw[z C];rfl,A⟩
 obtain⟨p,u,l,r,F⟩:=r;clear q s n w;refine ae8 c d e g f b G ?_ p u _ ?_ l F r E o P
 . by_cases L:hh b.f b.b=-1
   . exact .inl L
   . exact .inr ⟨(cy a).toNat,by omega,by omega⟩
 . by_cases K:(a9 (aH a)).1.2.1=-1
   . exact .inl K
   . exact .inr ⟨(a9 (aH a)).1.2.1.toNat,by omega,by omega⟩
def bw.start {a:ai}{b:N}(f:bw a b):bw {a with f:=fU a.f} b:=by
 obtain⟨c,e,h,g,i,j,d⟩:=f;exact⟨c,e,b.c.W8,false,false,jw c.ok.W8 R,by rw[d];rfl⟩
def EC (b c d f e:Nat)(a:ai)(i:N)(k:bw a i)(g:D)(m:Hid (V g b c d f e a)):
 Calls prog 160 #[I b] g fun n h=>n=.returned (.agg #[j (dA a).1.1,j (dA a).1.2])/\V h b c d f e (dA a).2/\Kept [b,c,d,f,e] g h:=
 acO b c d f e a (VZ k) (fun W l=>ae5 b c d f e _ i k.start W l) g m
theorem bw.run :∀(f r:Nat) {e:ai} {d:N},bw e d->bw (fw f r e).2 (gE f r d).2/\(fw f r e).1=(gE f r d).1
 |0,r,e,d,g=>⟨g,rfl⟩
 |f+1,r,e,d,g=>by
  have i:=g.step
  have h:(dA e).1.1=(cL d).1.1:=congrArg Prod.fst i.2
  show bw (fw f (if(dA e).1.1=0 then r+1 else r) (dA e).2).2 (gE f (if(cL d).1.1=0 then r+1 else r) (cL d).2).2/\_
  rw[h]
  have:=bw.run f (if(cL d).1.1=0 then r+1 else r) i.1
  refine⟨this.1,?_⟩
  show(fw f (if(dA e).1.1=0 then r+1 else r) (dA e).2).1=(gE f (if(cL d).1.1=0 then r+1 else r) (cL d).2).1
  rw[h]
  exact this.2
def acJ (a c d g f:Nat)(b:ai)(n:N)(o:bw b n)(e:Nat)(q:e<=4096)(k:D)(r:Hid (V k a c d g f b)):
 Calls prog 161 #[I a,j e] k fun s m=>s=.returned (.tuple #[j (fw e 0 b).1,j 0])/\V m a c d g f (fw e 0 b).2/\Kept [a,c,d,g,f] k m:=
 acL a c d g f b (fun h=>∃i,bw h i) ⟨n,o⟩ (fun h ⟨i,l⟩=>⟨_,l.step.1⟩) (fun h ⟨i,l⟩ W p=>EC a c d g f h i l W p) e q k r
section
attribute [local go_sem ↓] Go.wp_at_zero Go.wp_at_succ
def xq (a:ai):ai:={b:=pW a.b,f:=kH,x:=List.replicate 32 0,V3:=2147483648,wait:=false,res:=0}
def gN :Array Value:=#[j 0,j 0,j 0,j 0,j 0,j 0,j 0,j 0,j 0,j 0,j 0,j 0,j 0,j 0,j 0,j 0,j 0,j 0,j 0,j 0,j 0,j 0,j 0,j 0,j 0,j 0,j 0,j 0,j 0,j 0,j 0,j 0]
def wY :∀a,(Instr.makeSlice 27 (.int .i64 32) (.int .i64 32)).run prog a=.ok (.slice (some ⟨a.heap.size,0,none⟩) 32 32) (a.alloc (.cells gN 3)):=fun _=>by kernel_rfl
def yb (a:Nat)(b:a<32):gN[a]?=some (j 0):=by
 have:a=0\/a=1\/a=2\/a=3\/a=4\/a=5\/a=6\/a=7\/a=8\/a=9\/a=10\/a=11\/a=12\/a=13\/a=14\/a=15\/a=16\/a=17\/a=18\/a=19\/a=20\/a=21\/a=22\/a=23\/a=24\/a=25\/a=26\/a=27\/a=28\/a=29\/a=30\/a=31:=by omega
 rcases this with rfl|rfl|rfl|rfl|rfl|rfl|rfl|rfl|rfl|rfl|rfl|rfl|rfl|rfl|rfl|rfl|rfl|rfl|rfl|rfl|rfl|rfl|rfl|rfl|rfl|rfl|rfl|rfl|rfl|rfl|rfl|rfl<;>rfl
def V.reset {f:D}{a k l O t:Nat}{o:ai}(b:V f a k l O t o)(p:Nat):V (((((f.setCell ⟨a,2,none⟩ (.slice (some ⟨f.heap.size,0,none⟩) 32 32)).setCell ⟨a,3,none⟩ (j 2147483648)).setCell ⟨a,4,none⟩ (.bool false)).setCell ⟨a,5,none⟩ (j 0)).alloc (.cells gN p)) a k l f.heap.size t {o with x:=List.replicate 32 0,V3:=2147483648,wait:=false,res:=0}:=by
 have r:=b.nodup;have P:=b.lt;have Q:=b.Wt.lt;have R:=b.Wt.Ww;have S:=b.WW.lt;simp only[gS,dD,eR,eS,gi,iR,gg]at r;obtain⟨⟨G,H,U,K⟩,⟨L,W,M⟩,⟨X,N⟩,T,_⟩:=r;obtain⟨c,d⟩:=y ((((f.setCell ⟨a,2,none⟩ (.slice (some ⟨f.heap.size,0,none⟩) 32 32)).setCell ⟨a,3,none⟩ (j 2147483648)).setCell ⟨a,4,none⟩ (.bool false)).setCell ⟨a,5,none⟩ (j 0));have q:Kept [a] f c:=by rw[d];exact(((p6 F).setCell (.inl F) _).setCell (.inl F) _).setCell (.inl F) _
 have s:c.heap.size=f.heap.size:=by rw[d];simp
 have w:c.cell? ⟨a,0,none⟩=some (I k):=by rw[d,b0 _ _ _ _ (by simp),b0 _ _ _ _ (by simp),b0 _ _ _ _ (by simp),b0 _ _ _ _ (by simp)];exact b.V8
 have x:c.cell? ⟨a,1,none⟩=some (I l):=by rw[d,b0 _ _ _ _ (by simp),b0 _ _ _ _ (by simp),b0 _ _ _ _ (by simp),b0 _ _ _ _ (by simp)];exact b.c1
 have z:c.cell? ⟨a,2,none⟩=some (.slice (some ⟨f.heap.size,0,none⟩) 32 32):=by rw[d,b0 _ _ _ _ (by simp),b0 _ _ _ _ (by simp),b0 _ _ _ _ (by simp)];exact jv _ _ _ b.c2
 have A:c.cell? ⟨a,3,none⟩=some (j 2147483648):=by rw[d,b0 _ _ _ _ (by simp),b0 _ _ _ _ (by simp)];exact jv _ _ _ ((b0 _ _ _ _ F).trans b.c3)
 have B:c.cell? ⟨a,4,none⟩=some (.bool false):=by rw[d,b0 _ _ _ _ (by simp)];exact jv _ _ _ (((b0 _ _ _ _ F).trans (b0 _ _ _ _ F)).trans b.c4)
 have C:c.cell? ⟨a,5,none⟩=some (j 0):=by rw[d];exact jv _ _ _ ((((b0 _ _ _ _ F).trans (b0 _ _ _ _ F)).trans (b0 _ _ _ _ F)).trans b.c5)
 have E:dY c a:=fun i=>by rw[d];simp[b.Wb]
 have u:=b.Wt.more q ad ad;have v:=b.WW.more q ad;rw[<-d];have e:Kept [] c (c.alloc (.cells gN p)):=dE;have h:a<c.heap.size:=J;refine⟨(e.cell (p:=⟨a,0,none⟩) h F).trans w,(e.cell (p:=⟨a,1,none⟩) h F).trans x,(e.cell (p:=⟨a,2,none⟩) h F).trans z,(e.cell (p:=⟨a,3,none⟩) h F).trans A,(e.cell (p:=⟨a,4,none⟩) h F).trans B,(e.cell (p:=⟨a,5,none⟩) h F).trans C,fun i=>(e.frozen (p:=⟨a,i,none⟩) h F).trans (E i),by simp;omega,u.more e F F,v.more e F,by simp,?_,?_,by simp;omega,?_⟩
 . intro m g;have n:m<32:=pB;rw[<-s,fK _ _ _ _ _ rfl];show _=some (j (((List.replicate 32 0)[m]'(by simpa using n):Nat):Int));rw[List.getElem_replicate];exact yb m n
 . intro i;rw[<-s,fp _ _ _ _ _ rfl]
 . simp only[gS,dD,eR,eS,gi,iR,gg,ur];exact⟨⟨G,H,by omega,K⟩,⟨L,by omega,M⟩,⟨by omega,N⟩,by omega⟩
def aeB (e a c M k:Nat)(i:ai)(b:D)(d:Hid (V b e a c M k i)):
 Calls prog 165 #[I e] b fun v m=>v=.returned (.tuple #[])/\(∃n,b.heap.size<=n/\V m e a c n k (xq i))/\Kept [e,a,c] b m:=by
 have N:=d.out.V8;have c1:=d.out.c1;have G:=wY;obtain⟨P,H⟩:=y (Obj.cells gN 3);rw[<-H]at G;have o:=l (EI a k i.b b (l d.out.Wt));go_enter func165,ntmps165;go_wp2_with fail;refine o.out.mono ?_;rintro K L ⟨rfl,s,f⟩;have h:=d.out.Xy (f.mono F) s;clear o;have d1:=h.c1;have p:=l (EJ c a _ L (l h.WW));have q:=l h;clear h;go_wp2_with fail;refine p.out.mono ?_;rintro K u ⟨rfl,t,g⟩;have j:=q.out.XE g t;clear p;obtain⟨-,-,w,x,z,A,B,O,-,-,-,-,-,-,-⟩:=id j;have r:=l j;clear j q;go_wp2_with fail;go_end0;have C:=r.out.reset 3;have E:Kept [e,a,c] b u:=(f.mono F).trans (g.mono F);have J:=fE f.size g.size;clear f g d s t w x z A B r;refine⟨rfl,⟨u.heap.size,J,?_⟩,?_⟩
 . unfold xq;exact C
 . exact((((E.setCell (.inl F) _).setCell (.inl F) _).setCell (.inl F) _).setCell (.inl F) _).alloc _
def V.box {w:D}{bb fb xb rb:Nat}{B:P}{C:Q}{x:List Nat}(d:ap w bb rb B)(k:T w fb bb C)(o:x.length=32)(n:∀a (q:a<x.length),w.cell? ⟨xb,a,none⟩=some (j x[a]))(p:∀c,w.frozen? ⟨xb,c,none⟩=false)(e:xb<w.heap.size)(m:[bb,fb,xb,rb].Nodup)(f g:Nat)(h:Bool)(i:Nat):
 V (w.alloc (.cells #[I bb,I fb,.slice (some ⟨xb,0,none⟩) 32 32,j f,.bool h,j g] i)) w.heap.size bb fb xb rb ⟨B,C,x,f,h,g⟩:=by
 have b:Kept [] w (w.alloc (.cells #[I bb,I fb,.slice (some ⟨xb,0,none⟩) 32 32,j f,.bool h,j g] i)):=dE;have r:=d.lt;have s:=d.Ww;have t:=k.lt;refine⟨?_,?_,?_,?_,?_,?_,fun c=>fp _ _ _ _ _ rfl,by simp,d.more b F F,k.more b F,o,fun a l=>(b.cell (p:=⟨xb,a,none⟩) e F).trans (n a l),fun c=>(b.frozen (p:=⟨xb,c,none⟩) e F).trans (p c),aR e b.size,?_⟩;case refine_7=>
  refine gS.2 ⟨?_,m⟩;simp only[dD,eR,eS,gi];omega
 all_goals (rw[fK _ _ _ _ _ rfl];rfl)
def sR (a:Nat):ai:=⟨BC a,kH,List.replicate 32 0,2147483648,false,0⟩
def aeu (h:Nat)(G:h<=65536)(W:D):
 Calls prog 156 #[j h] W fun e t=>(∃s d w z i,e=.returned (.tuple #[I s,j 0])/\W.heap.size<=s/\W.heap.size<=d/\W.heap.size<=w/\W.heap.size<=z/\W.heap.size<=i/\V t s d w z i (sR h))/\Kept [] W t:=by
 have L:=wY;have u:=l (ac0 h G W);go_enter func156,ntmps156;go_wp2_with fail;refine u.out.mono ?_;rintro e k ⟨⟨d,i,rfl,C,E,f⟩,b⟩;have v:=l (ac8 d k);clear u;go_wp2_with fail;refine v.out.mono ?_;rintro e a ⟨rfl,m,c⟩;clear v;have q:Kept [] W k:=⟨b.os,b.tape,b.output,b.size,fun o n _=>b.block o n⟩;have r:Kept [] k a:=⟨c.os,c.tape,c.output,c.size,fun o n _=>c.block o n⟩;have x:=f.more r F F;have M:=f.lt;have N:=f.Ww;have O:=m.lt;have J:=f.ne;have K:=q.size;have p:Kept [] a (a.alloc (.cells gN 3)):=dE;have B:=l (V.box (x:=List.replicate 32 0) (xb:=a.heap.size) (x.more p F F) (m.more p F) F (by
  intro y g;have A:y<32:=pB;rw[List.getElem_replicate,fK _ _ _ _ _ rfl];exact yb y A) (fun P=>fp _ _ _ _ _ rfl) F (by
  simp only[gS,dD,eR,eS,gi,iR,gg,ur];exact⟨⟨by omega,by omega,J⟩,⟨by omega,by omega⟩,by omega⟩) 2147483648 0 false 178)
 have H:Hid (Kept [] W a):=l (q.trans r);clear f b m c q r x p;go_wp2_with fail;go_ret2;refine⟨⟨a.heap.size+1,d,k.heap.size,a.heap.size,i,rfl,by omega,C,K,by omega,E,?_⟩,(H.out.alloc _).alloc _⟩;have e:(a.alloc (.cells gN 3)).heap.size=a.heap.size+1:=bN;have:=B.out;rw[e]at this;exact this
def ac1 (a:Int)(b:a<0\/65536<a)(d:D):
 O 232 #[j a] (.tuple #[.pointer none,j 2]) d:=by
 rcases b with b|b
 . have c:decide (a<0)=true:=g0;exact LJ
 . have c:decide (a<0)=false:=M;have e:decide (65536<a)=true:=g0;exact LJ
def aev (a:Int)(b:a<0\/65536<a)(c:D):
 O 156 #[j a] (.tuple #[.pointer none,j 2]) c:=by
 have d:=l (ac1 a b c);clear b;go_enter func156,ntmps156;go_wp2_with fail;refine d.out.mono ?_;exact akl
end
end Go.Proofs.YtmlgonbhoknoiaaGreatDoor
