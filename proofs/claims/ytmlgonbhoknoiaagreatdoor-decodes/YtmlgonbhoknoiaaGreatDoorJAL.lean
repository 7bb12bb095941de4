import Derived.Test.YtmlgonbhoknoiaaGreatDoorJAJ
import Derived.Test.YtmlgonbhoknoiaaGreatDoorJAK
set_option maxHeartbeats 8000000
set_option maxRecDepth 100000
set_option linter.all false
namespace Go.Proofs.YtmlgonbhoknoiaaGreatDoor
open Go.RowKit Go.Proofs.Tryz
def EB (c e:Nat)(b:P)(g:aT b)(a:Nat)(i:2147483648<=a)(f:a-2147483648+4<=b.o.length)(d:D)(h:Hid (ap d c e b)):
 O 392 #[I c,j a,j 4] (j (bB b a)) d:=
 xR c e b g a (a-2147483648) 4 (by omega) (by omega) (by omega) f d h
def EF (c d:Nat)(a:P)(m:aT a)(g:Int)(p b:Nat)(k:Int)(s:k=(b:Int))(t:g-2147483648=p)(q:1<=b)(r:b<=4)(o:p+b<=a.o.length)(e:Nat)(i:Int)(n:i=(e:Int))(u:G e)(f:D)(v:Hid (ap f c d a)):
 Calls prog 428 #[I c,j g,j k,j i] f fun l h=>l=.returned (.tuple #[])/\ap h c d {a with o:=bu a.o p b e}/\Kept [d] f h:=by
 subst n;subst s;exact EE c d a m g p b t q r o e u f v
theorem ae9 (U g ak aq h:Nat)(c:ai)(Q:aT c.b)(r k n mode:Nat)(a9:r<34359738368)(bb:G k)(P:n=0\/n=1\/n=2)(aF:mode=0\/mode=1)(e:D)(a:Hid (V e U g ak aq h c)):
 Calls prog 415 #[I U,j r,j 0,j k,j n,j mode] e fun u i=>u=.returned (.tuple #[j (fY c.b c.f r k n mode).1.1,j (fY c.b c.f r k n mode).1.2])/\V i U g ak aq h {c with b:=(fY c.b c.f r k n mode).2}/\Kept [g,h] e i:=by
 have aV:=a.out.V8;obtain⟨f,S⟩:=y (dg r k 0);obtain⟨X,am⟩:=y (k/4096);obtain⟨T,al⟩:=y (X%1024);have aW:(k:Int).tdiv 4096=(X:Int):=kg;have aX:(X:Int).tmod 1024=(T:Int):=fc;have aC:f=r+T*4:=by rw[S,al,am];rfl
 have aY:(r:Int)+(T:Int)*4=(f:Int):=J;have a6:T<1024:=J;have a8:G X:=J;have a5:f<34359742464:=J;have o:=l (iM g h f 4 m m m m c.b.o.length Q.o e a.out.Wt.V8);obtain⟨R,d⟩:=y (fY c.b c.f r k n mode);rw[<-d];unfold fY at d;rw[<-S]at d;cases v:a1 (f:Int) 4 c.b.o.length with
 |false=>
  rw[v]at o;rw[v,B rfl]at d;subst d;clear v S am al aC Q P aF;go_enter mT,mU;go_wp2_with(go_at_call 391;refine o.out.mono ?_;rintro u bf ⟨rfl,rfl⟩);go_ret2;exact⟨rfl,a.out,Kept.refl _ _⟩
 |true=>
  rw[v]at o;rw[v,z (by simp)]at d;obtain⟨av,aw⟩:=jR v;have N:=l (EB g h c.b Q f av aw e (l a.out.Wt));have q:=nF c.b f;obtain⟨b,aE⟩:=y (bB c.b f);rw[<-aE]at N q d;have W:=l (fun(an:Nat) (aK:Int) (P:aK=(an:Int)) (aR:G an)=>EF g h c.b Q f (f-2147483648) 4 4 rfl m m m m an aK P aR e (l a.out.Wt));have w:=l (EG U g ak aq h c b n mode q P aF e a);have x:=l (e8 b 0 0 rfl q m e);have A:=l (e8 b 1 1 rfl q m e);have C:=l (e8 b 2 2 rfl q m e);have E:=l (e8 b 3 3 rfl q m e);have H:=l (e8 b 4 4 rfl q m e);have K:=l (e8 b 6 6 rfl q m e);have L:=l (e8 b 7 7 rfl q m e);unfold fO ko at d;obtain⟨aO,Z⟩:=y (ab b 0);obtain⟨aP,aa⟩:=y (ab b 1);obtain⟨au,ac⟩:=y (ab b 2);obtain⟨aQ,ad⟩:=y (ab b 3);obtain⟨aU,ah⟩:=y (ab b 4);obtain⟨aN,s⟩:=y (ab b 6);obtain⟨ar,t⟩:=y (ab b 7);obtain⟨aS,aj⟩:=y (g5 c.f b n mode);rw[<-Z]at x;rw[<-aa]at A;rw[<-ac]at C;rw[<-ad]at E;rw[<-ah]at H;rw[<-s]at K;rw[<-t]at L;rw[<-aj]at w;rw[<-Z,<-aa,<-ac,<-ad,<-s,<-t,<-aj]at d;try rw[<-ah]at d
  obtain⟨p,aH⟩:=y (b/1024);obtain⟨ao,aG⟩:=y (k%4096);have aZ:(b:Int).tdiv 1024=(p:Int):=kg;have a0:(k:Int).tmod 4096=(ao:Int):=fc;have a7:p<4194304:=J;have aI:gG 0=4096:=rfl;rw[aI,<-aH,<-aG]at d;obtain⟨Y,aJ⟩:=y (p*4096);have a2:(p:Int)*4096=(Y:Int):=J;have ba:Y<17179869184:=J;rw[<-aJ]at d;obtain⟨O,ax⟩:=y (Y+ao);have a3:(Y:Int)+(ao:Int)=(O:Int):=J;have a4:O<17592186044416:=J;rw[<-ax]at d;have ae:b/64%2=0->b+64<4294967296:=J;have af:b/128%2=0->b+128<4294967296:=J;have ag:b/64%2=0->b/128%2=0->b+192<4294967296:=J;have aL:aN=false->b/64%2=0:=Kw;have aM:ar=false->b/128%2=0:=KC;have bc:((b:Int)+64 !=(b:Int))=true:=M;have bd:((b:Int)+128 !=(b:Int))=true:=M;have be:((b:Int)+64+128 !=(b:Int))=true:=M;have aD:Hid (b/64%2=0->Calls prog 428 #[I g,j f,j 4,j ((b:Int)+64)] e fun u i=>u=.returned (.tuple #[])/\ap i g h {c.b with o:=bu c.b.o (f-2147483648) 4 (b+64)}/\Kept [h] e i):=KM;have aA:Hid (b/128%2=0->Calls prog 428 #[I g,j f,j 4,j ((b:Int)+128)] e fun u i=>u=.returned (.tuple #[])/\ap i g h {c.b with o:=bu c.b.o (f-2147483648) 4 (b+128)}/\Kept [h] e i):=KV;have ay:Hid (b/64%2=0->b/128%2=0->Calls prog 428 #[I g,j f,j 4,j ((b:Int)+64+128)] e fun u i=>u=.returned (.tuple #[])/\ap i g h {c.b with o:=bu c.b.o (f-2147483648) 4 (b+192)}/\Kept [h] e i):=K2;have az:=l aL;have aB:=l aM;clear aL aM ae af ag W v S am al aC Q Z aa ac ad ah s t aj aE aH aG aI aJ ax av aw;cases aO
  . exact vp
  cases aP
  . cases au
    . cases aQ
      . exact vp
      . exact zL
    . exact vp
  . cases au
    . exact zL
    . exact zL
theorem afa (U h Y ad i:Nat)(c:ai)(R:aT c.b)(v k n mode:Nat)(bp:v<34359738368)(a7:G k)(Q:n=0\/n=1\/n=2)(ar:mode=0\/mode=1)(e:D)(a:Hid (V e U h Y ad i c)):
 Calls prog 415 #[I U,j v,j 1,j k,j n,j mode] e fun f q=>f=.returned (.tuple #[j (fC c.b c.f v k n mode).1.1,j (fC c.b c.f v k n mode).1.2])/\V q U h Y ad i {c with b:=(fC c.b c.f v k n mode).2}/\Kept [h,i] e q:=by
 have ba:=a.out.V8;obtain⟨g,Z⟩:=y (dg v k 1);obtain⟨ac,av⟩:=y (k/4194304);obtain⟨aa,au⟩:=y (ac%1024);have bc:(k:Int).tdiv 4194304=(ac:Int):=kg;have bd:(ac:Int).tmod 1024=(aa:Int):=fc;have aK:g=v+aa*4:=by rw[Z,au,av];unfold dg;rw[show gG 1=4194304 from rfl]
 have be:(v:Int)+(aa:Int)*4=(g:Int):=J;have bm:aa<1024:=J;have bo:G ac:=J;have bl:g<34359742464:=J;have o:=l (iM h i g 4 m m m m c.b.o.length R.o e a.out.Wt.V8);obtain⟨P,d⟩:=y (fC c.b c.f v k n mode);rw[<-d];unfold fC at d;rw[<-Z]at d;cases O:a1 (g:Int) 4 c.b.o.length with
 |false=>
  rw[O]at o;rw[O,B rfl]at d;subst d;clear O Z av au aK R Q ar;as_aux_lemma=>
   go_enter mT,mU;go_wp2_with(go_at_call 391;refine o.out.mono ?_;rintro f r ⟨rfl,rfl⟩);exact ake
 |true=>
  rw[O]at o;rw[O,z (by simp)]at d;obtain⟨aH,aI⟩:=jR O;have N:=l (EB h i c.b R g aH aI e (l a.out.Wt));have u:=nF c.b g;obtain⟨b,aN⟩:=y (bB c.b g);rw[<-aN]at N u d;have W:=l (fun(aw:Nat) (aU:Int) (Q:aU=(aw:Int)) (a6:G aw)=>EF h i c.b R g (g-2147483648) 4 4 rfl m m m m aw aU Q a6 e (l a.out.Wt));have w:=l (EG U h Y ad i c b n mode u Q ar e a);have x:=l (e8 b 0 0 rfl u m e);have A:=l (e8 b 1 1 rfl u m e);have C:=l (e8 b 2 2 rfl u m e);have E:=l (e8 b 3 3 rfl u m e);have H:=l (e8 b 4 4 rfl u m e);have K:=l (e8 b 6 6 rfl u m e);have L:=l (e8 b 7 7 rfl u m e);unfold fO ko at d;obtain⟨aY,aj⟩:=y (ab b 0);obtain⟨aZ,ak⟩:=y (ab b 1);obtain⟨aG,al⟩:=y (ab b 2);obtain⟨a0,am⟩:=y (ab b 3);obtain⟨a2,an⟩:=y (ab b 4);obtain⟨aE,s⟩:=y (ab b 6);obtain⟨ah,t⟩:=y (ab b 7);obtain⟨a8,ao⟩:=y (g5 c.f b n mode);rw[<-aj]at x;rw[<-ak]at A;rw[<-al]at C;rw[<-am]at E;rw[<-an]at H;rw[<-s]at K;rw[<-t]at L;rw[<-ao]at w;rw[<-aj,<-ak,<-al,<-am,<-s,<-t,<-ao]at d;try rw[<-an]at d
  obtain⟨p,aP⟩:=y (b/1024);obtain⟨ax,aO⟩:=y (k%4194304);have bf:(b:Int).tdiv 1024=(p:Int):=kg;have bg:(k:Int).tmod 4194304=(ax:Int):=fc;have bn:p<4194304:=J;have aR:gG 1=4194304:=rfl;rw[aR,<-aP,<-aO]at d;obtain⟨X,aQ⟩:=y (p%1024);have bh:(p:Int).tmod 1024=(X:Int):=fc;have a3:((X:Int) !=0)=!decide (X=0):=fJ;rw[<-aQ]at d;obtain⟨aX,aq⟩:=y (decide (X=0));rw[<-aq]at a3;have aM:(X=0)=(aX=true):=by rw[aq];simp
  simp only[aM]at d;obtain⟨S,aS⟩:=y (p*4096);have bi:(p:Int)*4096=(S:Int):=J;have bq:S<17179869184:=J;rw[<-aS]at d;have aF:=l (ae9 U h Y ad i c R S k n mode m a7 Q ar e a);obtain⟨T,aJ⟩:=y (S+ax);have bj:(S:Int)+(ax:Int)=(T:Int):=J;have bk:T<17592186044416:=J;rw[<-aJ]at d;have ae:b/64%2=0->b+64<4294967296:=J;have af:b/128%2=0->b+128<4294967296:=J;have ag:b/64%2=0->b/128%2=0->b+192<4294967296:=J;have aV:aE=false->b/64%2=0:=Kw;have aW:ah=false->b/128%2=0:=KC;have br:((b:Int)+64 !=(b:Int))=true:=M;have bs:((b:Int)+128 !=(b:Int))=true:=M;have bt:((b:Int)+64+128 !=(b:Int))=true:=M;have aD:Hid (b/64%2=0->Calls prog 428 #[I h,j g,j 4,j ((b:Int)+64)] e fun f q=>f=.returned (.tuple #[])/\ap q h i {c.b with o:=bu c.b.o (g-2147483648) 4 (b+64)}/\Kept [i] e q):=KM;have aA:Hid (b/128%2=0->Calls prog 428 #[I h,j g,j 4,j ((b:Int)+128)] e fun f q=>f=.returned (.tuple #[])/\ap q h i {c.b with o:=bu c.b.o (g-2147483648) 4 (b+128)}/\Kept [i] e q):=KV;have ay:Hid (b/64%2=0->b/128%2=0->Calls prog 428 #[I h,j g,j 4,j ((b:Int)+64+128)] e fun f q=>f=.returned (.tuple #[])/\ap q h i {c.b with o:=bu c.b.o (g-2147483648) 4 (b+192)}/\Kept [i] e q):=K2;obtain⟨aC,aL⟩:=y (g-2147483648);simp only[<-aL]at d aD aA ay;clear aL;have az:=l aV;have aB:=l aW;clear aV aW ae af ag W O Z av au aK R aj ak al am an s t ao aN aP aO aR aS aJ aH aI aQ aq aM;cases aY
  . exact nc
  cases aZ
  . cases aG
    . cases a0
      . cases a2
        . cases aE
          . cases ah
            . replace d:P=fY c.b c.f S k n mode:=by rw[d];simp
              rw[<-d]at aF;clear d;obtain⟨⟨bv,bb⟩,a9⟩:=P;as_aux_lemma=>
               go_enter mT,mU;go_wp2_with(first|(first|(go_at_call 391;refine o.out.mono ?_;rintro f r ⟨rfl,rfl⟩)|(go_at_call 392;refine N.out.mono ?_;rintro f r ⟨rfl,rfl⟩)|(go_at_call 444;refine w.out.mono ?_;rintro f r ⟨rfl,rfl⟩)|(go_at_call 443;first|((with_reducible refine x.out.mono ?_);rintro f r ⟨rfl,rfl⟩)|((with_reducible refine A.out.mono ?_);rintro f r ⟨rfl,rfl⟩)|((with_reducible refine C.out.mono ?_);rintro f r ⟨rfl,rfl⟩)|((with_reducible refine E.out.mono ?_);rintro f r ⟨rfl,rfl⟩)|((with_reducible refine H.out.mono ?_);rintro f r ⟨rfl,rfl⟩)|((with_reducible refine K.out.mono ?_);rintro f r ⟨rfl,rfl⟩)|((with_reducible refine L.out.mono ?_);rintro f r ⟨rfl,rfl⟩)))|(go_at_call 415;refine aF.out.mono ?_;rintro f w3 ⟨rfl,a4,a5⟩));go_ret2;exact⟨rfl,a4,a5⟩
            . exact nc
          . exact nc
        . exact nc
      . exact zM
    . exact nc
  . cases aG
    . exact zM
    . exact zM
section
attribute [local go_sem ↓] Go.wp_at_zero Go.wp_at_succ
def dV (a:N):Nat:=a.c.Wo |||fz a.b |||hj a.b
def Ei (a:P)(b:a.Wj<2):fz a<256:=by
 unfold fz;exact fu _ _ 8 m (by cases fP a<;>decide)
def CX (a:P):hj a<4096:=by unfold hj;split<;>omega
def qj (a:N)(b:af a):dV a<4096:=by
 have d:=b.Wo;have e:=Ei a.b b.b.Wj;have c:=CX a.b;unfold dV;exact fu _ _ 12 (fu _ _ 12 m m) c
def x6 (b n a)(g:af a)(w)(c:Hid (E w b n a)):
 aE 127 #[I b] (j (dV a)) w:=by
 have J:=c.out.Yr;have K:=c.out.Yw;have L:=c.out.XP;have M:=c.out.XQ;have N:=c.out.Yx;have O:=c.out.Yy;have P:=c.out.XR;have Q:=c.out.XS;have R:=c.out.XT;have S:=c.out.XK;have T:=c.out.XL;have z:=g.Wo;have B:=Ei a.b g.b.Wj;have A:=CX a.b;have i:=fun W=>l (aiZ a.b g.b W);have h:=fun W=>l (ahE a.b g.b.enable W);have v:=g8 a.c.Wo (fz a.b) m m;have x:(a.c.Wo |||fz a.b)<4096:=fu _ _ 12 m m;have k:=g8 (a.c.Wo |||fz a.b) (hj a.b) m m;unfold dV;obtain⟨D,s⟩:=y (fz a.b);obtain⟨p,r⟩:=y (hj a.b);simp only[<-s,<-r]at i h v k|-;obtain⟨F,t⟩:=y (a.c.Wo |||D);rw[<-t]at v k|-;obtain⟨U,u⟩:=y (F |||p);rw[<-u]at k|-;unfold ee at i;unfold bx at h;clear s r t u g z B A x;go_enter func127,ntmps127;go_upto_region 1 with fail;go_region_held3 (fun e=>e.cell? ⟨b,42,none⟩=some (j a.c.Wo)/\e.cell? ⟨b,61,none⟩=some (j a.b.Wj)/\e.cell? ⟨b,62,none⟩=some (j a.b.time)/\e.cell? ⟨b,63,none⟩=some (j a.b.Wh)/\e.cell? ⟨b,64,none⟩=some (j a.b.cmp)/\e.cell? ⟨b,65,none⟩=some (j a.b.Wv)/\e.cell? ⟨b,66,none⟩=some (j a.b.enable)/\e.cell? ⟨b,67,none⟩=some (j a.b.Wr)/\e.cell? ⟨b,68,none⟩=some (.bool a.b.lost)/\e.cell? ⟨b,69,none⟩=some (.string a.b.rx)/\e.cell? ⟨b,70,none⟩=some (.string a.b.Wc)) (first|go_keep|exact⟨d.Yr,d.Yw,d.XP,d.XQ,d.Yx,d.Yy,d.XR,d.XS,d.XT,d.XK,d.XL⟩|exact⟨f.Yr,f.Yw,f.XP,f.XQ,f.Yx,f.Yy,f.XR,f.XS,f.XT,f.XK,f.XL⟩) (first|(go_at_call 186;refine(i _).out.mono ?_;rintro C G ⟨rfl,o⟩;have d:E G b n a:=E.kept c.out.drew o)|(go_at_call 187;refine(h _).out.mono ?_;rintro C H ⟨rfl,q⟩;have f:E H b n a:=E.kept d q));all_goals
  go_wp2_with fail;go_ret;exact⟨rfl,((Kept.refl _ _).drew.trans o).trans q⟩
def b2 (a:N):Nat:=dV a&&&a.c.Wd
def qS (b e a)(c:af a)(n)(d:Hid (E n b e a)):
 aE 79 #[I b] (j (b2 a)) n:=by
 have v:=d.out.YE;have s:=qj a c;have r:=c.Wd;have k:=bm (dV a) a.c.Wd m m;have f:=l (fun W q=>x6 b e a c W q);unfold b2;obtain⟨p,h⟩:=y (dV a);simp only[<-h]at f k|-;obtain⟨x,i⟩:=y (p&&&a.c.Wd);rw[<-i]at k|-;clear h i c r s;go_enter func79,ntmps79;go_upto_region 1 with fail;go_region_held3 (fun o=>o.cell? ⟨b,41,none⟩=some (j a.c.Wd)) (first|go_keep|exact t.YE) (first|(go_at_call 127;refine(f.out _ (l d.out.drew)).mono ?_;rintro w u ⟨rfl,g⟩;have t:E u b e a:=E.kept d.out.drew g));all_goals
  go_wp2_with fail;go_ret;exact⟨rfl,(Kept.refl _ _).drew.trans g⟩
def gv (a:N)(c b:Nat):Bool:=decide (a.mode≠3)&&cu c b
def Fk (g n:Nat)(a:N)(b c:Nat)(hd:G b)(h)(k:Hid (E h g n a)):
 O 129 #[I g,j b,j c] (.bool (gv a b c)) h:=by
 have i:=k.out.Xl;have e:=l (tH b c hd);unfold gv;obtain⟨p,f⟩:=y (cu b c);simp only[<-f]at e|-;by_cases d:a.mode=3
 . rw[d]at i|-;clear f d;go_enter func129,ntmps129;go_wp2_with(go_at_call 188;refine(e.out _).mono ?_;rintro m o ⟨rfl,rfl⟩);exact lR
 . have q:((a.mode:Int) !=3)=true:=M;rw[show decide (a.mode≠3)=true by simp[d]];clear f d;go_enter func129,ntmps129;go_wp2_with(go_at_call 188;refine(e.out _).mono ?_;rintro m o ⟨rfl,rfl⟩);go_ret;exact⟨by simp,rfl⟩
def p2 (a b c d e f g:Bool)(h i:Int):Int:=if(a&& (b ||c))=true then h else if(d&& (e ||(f&&g)))=true then i else -1
def cy (a:N):Int:=p2 (!decide (aI (b2 a) a.c.V9=0)) (!decide (a.mode=3)) (ab a.c.V5 3) (!decide (b2 a&&&a.c.V9=0)) (decide (a.mode=0)) (decide (a.mode=1)) (ab a.c.V5 1) (eg (aI (b2 a) a.c.V9)) (eg (b2 a&&&a.c.V9))
def oo (o M a)(c:af a)(R)(H:Hid (E R o M a)):
 aE 80 #[I o] (j (cy a)) R:=by
 have G:=qj a c;have ae:=c.V5;have ad:=c.V9;have ac:b2 a<4096:=by unfold b2;exact bL gO G
 have r:=l (fun W b=>qS o M a c W b);have K:=gs (b2 a) a.c.V9 m m;have L:=bm (b2 a) a.c.V9 m m;have e:aI (b2 a) a.c.V9<4294967296:=bL (h0 _ _) m;have f:(b2 a&&&a.c.V9)<4294967296:=G9;have g:=l (Fs _ e);have h:=l (Fs _ f);have p:=fh (aI (b2 a) a.c.V9);have q:=fh (b2 a&&&a.c.V9);have N:bits .and .i64 (a.c.V5:Int) 8=((a.c.V5&&&8:Nat):Int):=bm a.c.V5 8 m m;have P:=fh (a.c.V5&&&8);rw[show decide (a.c.V5&&&8=0)=!ab a.c.V5 3 from dj _ 3,q9,<-N]at P;have O:bits .and .i64 (a.c.V5:Int) 2=((a.c.V5&&&2:Nat):Int):=bm a.c.V5 2 m m;have Q:=fh (a.c.V5&&&2);rw[show decide (a.c.V5&&&2=0)=!ab a.c.V5 1 from dj _ 1,q9,<-O]at Q;have ai:((a.mode:Int) !=3)=!decide (a.mode=3):=by by_cases b:a.mode=3<;>simp[b];omega
 have ag:((a.mode:Int)==0)=decide (a.mode=0):=by by_cases b:a.mode=0<;>simp[b]
 have ah:((a.mode:Int)==1)=decide (a.mode=1):=by by_cases b:a.mode=1<;>simp[b];omega
 unfold cy;obtain⟨s,B⟩:=y (b2 a);simp only[<-B]at r K L g h p q e f|-;obtain⟨i,C⟩:=y (aI s a.c.V9);obtain⟨k,D⟩:=y (s&&&a.c.V9);simp only[<-C]at K g p e|-;simp only[<-D]at L h q f|-;obtain⟨T,t⟩:=y (!decide (i=0));obtain⟨U,u⟩:=y (!decide (a.mode=3));obtain⟨V,v⟩:=y (ab a.c.V5 3);obtain⟨X,w⟩:=y (!decide (k=0));obtain⟨Y,x⟩:=y (decide (a.mode=0));obtain⟨Z,z⟩:=y (decide (a.mode=1));obtain⟨aa,A⟩:=y (ab a.c.V5 1);rw[<-t]at p|-;rw[<-u]at ai|-;rw[<-v]at P|-;rw[<-w]at q|-;rw[<-x]at ag|-;rw[<-z]at ah|-;rw[<-A]at Q|-;obtain⟨ak,d⟩:=y (p2 T U V X Y Z aa (eg i) (eg k));rw[<-d];unfold p2 at d;have S:=l d;clear d t u v w x z A C D B c G ae ad ac N O e f;go_enter func80,ntmps80;go_wp2_with fail;refine(r.out _ H).mono ?_;rintro J ao ⟨rfl,F⟩;have n:=H.out.kept F;have al:=n.Xl;have am:=n.Xm;have an:=n.YB;go_wp2_with(first|(go_at_call_of 128 (Value.int IntKind.i64 (i:Int));refine(g.out _).mono ?_;rintro J aj ⟨rfl,rfl⟩)|(go_at_call_of 128 (Value.int IntKind.i64 (k:Int));refine(h.out _).mono ?_;rintro J aj ⟨rfl,rfl⟩));all_goals (go_ret;refine⟨eM ?_,F⟩;rw[S.out];simp_all)
def ajt (d h a)(f:af a)(b:Nat)(k:G b)(i)(c:Hid (E i d h a)):
 an 351 #[.pointer (some ⟨d,38,none⟩),j 256,j b] (.tuple #[]) [d] d h ({a with c:={a.c with V5:=dc a.c.V5 b 786722}}) i:=by
 have n:=c.out.Xm;have o:=c.out.Wb;have p:=f.V5;have e:Hid (∀W,O 260 #[j a.c.V5,j b,j 786722] (j (dc a.c.V5 b 786722)) W):=l (fun W=>qT a.c.V5 b 786722 m k m W);obtain⟨r,g⟩:=y (dc a.c.V5 b 786722);simp only[<-g]at e|-;clear g;clear f;go_enter iS,iT;go_wp2_with(go_at_call 260;refine(e.out _).mono ?_;rintro q s ⟨rfl,rfl⟩);exact Kk
def aju (d h a)(e:af a)(b:Nat)(k:G b)(i)(c:Hid (E i d h a)):
 an 351 #[.pointer (some ⟨d,38,none⟩),j 260,j b] (.tuple #[]) [d] d h ({a with c:={a.c with Wd:=dc a.c.Wd b a.c.V9}}) i:=by
 have o:=c.out.YE;have p:=c.out.Wb;have n:=c.out.YB;have hd:=e.V9;have q:=e.Wd;have f:Hid (∀W,O 260 #[j a.c.Wd,j b,j a.c.V9] (j (dc a.c.Wd b a.c.V9)) W):=l (fun W=>qT a.c.Wd b a.c.V9 m k m W);obtain⟨r,g⟩:=y (dc a.c.Wd b a.c.V9);simp only[<-g]at f|-;clear g;clear e;go_enter iS,iT;go_upto_region 4 with fail;go_region_with(go_at_call 260;refine(f.out _).mono ?_;rintro s t ⟨rfl,rfl⟩);all_goals
  go_wp2_with fail;go_end0;exact⟨rfl,c.out.drew.set 41 _ rfl rfl m,(Kept.refl _ _).drew.setCell (.inl F) _⟩
def ajv (c e b)(g:af b)(a:Nat)(k:G a)(f)(d:Hid (E f c e b)):
 an 351 #[.pointer (some ⟨c,38,none⟩),j 261,j a] (.tuple #[]) [c] c e ({b with c:={b.c with WH:=aI a 2}}) f:=by
 have h:=d.out.Y7;have i:=d.out.Wb;have l:bits .andNot .i64 (a:Int) 2=((aI a 2:Nat):Int):=gs a 2 m m;clear g;go_enter iS,iT;go_wp2_with fail;go_end0;exact⟨rfl,d.out.set 50 _ rfl rfl m,(Kept.refl _ _).setCell (.inl F) _⟩
def ajw (c e b)(g:af b)(a:Nat)(k:G a)(f)(d:Hid (E f c e b)):
 an 351 #[.pointer (some ⟨c,38,none⟩),j 262,j a] (.tuple #[]) [c] c e ({b with c:={b.c with WA:=a&&&7}}) f:=by
 have h:=d.out.Y8;have i:=d.out.Wb;have l:bits .and .i64 (a:Int) 7=((a&&&7:Nat):Int):=bm a 7 m m;clear g;go_enter iS,iT;go_wp2_with fail;go_end0;exact⟨rfl,d.out.set 51 _ rfl rfl m,(Kept.refl _ _).setCell (.inl F) _⟩
def ajx (b e a)(g:af a)(d:Nat)(k:G d)(f)(c:Hid (E f b e a)):
 an 351 #[.pointer (some ⟨b,38,none⟩),j 320,j d] (.tuple #[]) [b] b e ({a with c:={a.c with WR:=d}}) f:=by
 have h:=c.out.Zv;have i:=c.out.Wb;clear g;go_enter iS,iT;go_wp2_with fail;go_end0;exact⟨rfl,c.out.set 52 _ rfl rfl m,(Kept.refl _ _).setCell (.inl F) _⟩
def ajy (c e b)(g:af b)(a:Nat)(k:G a)(f)(d:Hid (E f c e b)):
 an 351 #[.pointer (some ⟨c,38,none⟩),j 321,j a] (.tuple #[]) [c] c e ({b with c:={b.c with Wu:=aI a 1}}) f:=by
 have h:=d.out.YM;have i:=d.out.Wb;have l:bits .andNot .i64 (a:Int) 1=((aI a 1:Nat):Int):=gs a 1 m m;clear g;go_enter iS,iT;go_wp2_with fail;go_end0;exact⟨rfl,d.out.set 53 _ rfl rfl m,(Kept.refl _ _).setCell (.inl F) _⟩
def ajz (b e a)(g:af a)(d:Nat)(k:G d)(f)(c:Hid (E f b e a)):
 an 351 #[.pointer (some ⟨b,38,none⟩),j 322,j d] (.tuple #[]) [b] b e ({a with c:={a.c with WD:=d}}) f:=by
 have h:=c.out.Y9;have i:=c.out.Wb;clear g;go_enter iS,iT;go_wp2_with fail;go_end0;exact⟨rfl,c.out.set 54 _ rfl rfl m,(Kept.refl _ _).setCell (.inl F) _⟩
def ajA (b e a)(g:af a)(d:Nat)(k:G d)(f)(c:Hid (E f b e a)):
 an 351 #[.pointer (some ⟨b,38,none⟩),j 323,j d] (.tuple #[]) [b] b e ({a with c:={a.c with WI:=d}}) f:=by
 have h:=c.out.Za;have i:=c.out.Wb;clear g;go_enter iS,iT;go_wp2_with fail;go_end0;exact⟨rfl,c.out.set 55 _ rfl rfl m,(Kept.refl _ _).setCell (.inl F) _⟩
def ajB (d h a)(e:af a)(b:Nat)(k:G b)(i)(c:Hid (E i d h a)):
 an 351 #[.pointer (some ⟨d,38,none⟩),j 324,j b] (.tuple #[]) [d] d h ({a with c:={a.c with Wo:=dc a.c.Wo b (a.c.V9&&&2)}}) i:=by
 have o:=c.out.Yr;have p:=c.out.Wb;have n:=c.out.YB;have hd:=e.V9;have s:(a.c.V9&&&2)<4294967296:=bL gO hd;have u:bits .and .i64 (a.c.V9:Int) 2=((a.c.V9&&&2:Nat):Int):=bm a.c.V9 2 m m;have q:=e.Wo;have f:Hid (∀W,O 260 #[j a.c.Wo,j b,j (a.c.V9&&&2:Nat)] (j (dc a.c.Wo b (a.c.V9&&&2))) W):=l (fun W=>qT a.c.Wo b (a.c.V9&&&2) m k m W);obtain⟨r,g⟩:=y (dc a.c.Wo b (a.c.V9&&&2));simp only[<-g]at f|-;clear g;clear e;go_enter iS,iT;go_upto_region 18 with fail;go_region_with(go_at_call 260;refine(f.out _).mono ?_;rintro t v ⟨rfl,rfl⟩);all_goals
  go_wp2_with fail;go_end0;exact⟨rfl,c.out.drew.set 42 _ rfl rfl m,(Kept.refl _ _).drew.setCell (.inl F) _⟩
def ajC (b e a)(g:af a)(d:Nat)(k:G d)(f)(c:Hid (E f b e a)):
 an 351 #[.pointer (some ⟨b,38,none⟩),j 384,j d] (.tuple #[]) [b] b e ({a with c:={a.c with Wf:=d}}) f:=by
 have h:=c.out.Yv;have i:=c.out.Wb;clear g;go_enter iS,iT;go_wp2_with fail;go_end0;exact⟨rfl,c.out.set 56 _ rfl rfl m,(Kept.refl _ _).setCell (.inl F) _⟩
def ajf (d h a)(f:af a)(b:Nat)(n:G b)(i)(c:Hid (E i d h a)):
 an 352 #[.pointer (some ⟨d,38,none⟩),j 768,j b] (.tuple #[]) [d] d h ({a with c:={a.c with V5:=hw a.c.V5 b}}) i:=by
 have o:=c.out.Xm;have p:=c.out.Wb;have k:=f.V5;have e:=l (aiQ a.c.V5 b k n);obtain⟨r,g⟩:=y (hw a.c.V5 b);simp only[<-g]at e|-;clear g;clear f;go_enter func352,hD;go_wp2_with(go_at_call 381;refine(e.out _).mono ?_;rintro q s ⟨rfl,rfl⟩);exact Kk
def ajg (c e b)(g:af b)(a:Nat)(k:G a)(f)(d:Hid (E f c e b)):
 an 352 #[.pointer (some ⟨c,38,none⟩),j 770,j a] (.tuple #[]) [c] c e ({b with c:={b.c with WG:=a&&&46079}}) f:=by
 have h:=d.out.Y1;have i:=d.out.Wb;have l:bits .and .i64 (a:Int) 46079=((a&&&46079:Nat):Int):=bm a 46079 m m;clear g;go_enter func352,hD;go_wp2_with fail;go_end0;exact⟨rfl,d.out.set 39 _ rfl rfl m,(Kept.refl _ _).setCell (.inl F) _⟩
def ajh (c e b)(g:af b)(a:Nat)(k:G a)(f)(d:Hid (E f c e b)):
 an 352 #[.pointer (some ⟨c,38,none⟩),j 771,j a] (.tuple #[]) [c] c e ({b with c:={b.c with V9:=a&&&546}}) f:=by
 have h:=d.out.YB;have i:=d.out.Wb;have l:bits .and .i64 (a:Int) 546=((a&&&546:Nat):Int):=bm a 546 m m;clear g;go_enter func352,hD;go_wp2_with fail;go_end0;exact⟨rfl,d.out.set 40 _ rfl rfl m,(Kept.refl _ _).setCell (.inl F) _⟩
def aji (c e b)(g:af b)(a:Nat)(k:G a)(f)(d:Hid (E f c e b)):
 an 352 #[.pointer (some ⟨c,38,none⟩),j 772,j a] (.tuple #[]) [c] c e ({b with c:={b.c with Wd:=a&&&2730}}) f:=by
 have h:=d.out.YE;have i:=d.out.Wb;have l:bits .and .i64 (a:Int) 2730=((a&&&2730:Nat):Int):=bm a 2730 m m;clear g;go_enter func352,hD;go_wp2_with fail;go_end0;exact⟨rfl,d.out.set 41 _ rfl rfl m,(Kept.refl _ _).setCell (.inl F) _⟩
def ajj (c e b)(g:af b)(a:Nat)(k:G a)(f)(d:Hid (E f c e b)):
 an 352 #[.pointer (some ⟨c,38,none⟩),j 773,j a] (.tuple #[]) [c] c e ({b with c:={b.c with Wz:=aI a 2}}) f:=by
 have h:=d.out.Y2;have i:=d.out.Wb;have l:bits .andNot .i64 (a:Int) 2=((aI a 2:Nat):Int):=gs a 2 m m;clear g;go_enter func352,hD;go_wp2_with fail;go_end0;exact⟨rfl,d.out.set 43 _ rfl rfl m,(Kept.refl _ _).setCell (.inl F) _⟩
def ajk (c e b)(g:af b)(a:Nat)(k:G a)(f)(d:Hid (E f c e b)):
 an 352 #[.pointer (some ⟨c,38,none⟩),j 774,j a] (.tuple #[]) [c] c e ({b with c:={b.c with Wp:=a&&&7}}) f:=by
 have h:=d.out.Y3;have i:=d.out.Wb;have l:bits .and .i64 (a:Int) 7=((a&&&7:Nat):Int):=bm a 7 m m;clear g;go_enter func352,hD;go_wp2_with fail;go_end0;exact⟨rfl,d.out.set 44 _ rfl rfl m,(Kept.refl _ _).setCell (.inl F) _⟩
def ajl (c e b)(g:af b)(a:Nat)(k:G a)(f)(d:Hid (E f c e b)):
 an 352 #[.pointer (some ⟨c,38,none⟩),j 800,j a] (.tuple #[]) [c] c e ({b with c:={b.c with W8:=a&&&5}}) f:=by
 have h:=d.out.Y4;have i:=d.out.Wb;have l:bits .and .i64 (a:Int) 5=((a&&&5:Nat):Int):=bm a 5 m m;clear g;go_enter func352,hD;go_wp2_with fail;go_end0;exact⟨rfl,d.out.set 45 _ rfl rfl m,(Kept.refl _ _).setCell (.inl F) _⟩
def ajm (b e a)(g:af a)(d:Nat)(k:G d)(f)(c:Hid (E f b e a)):
 an 352 #[.pointer (some ⟨b,38,none⟩),j 832,j d] (.tuple #[]) [b] b e ({a with c:={a.c with WK:=d}}) f:=by
 have h:=c.out.Zu;have i:=c.out.Wb;clear g;go_enter func352,hD;go_wp2_with fail;go_end0;exact⟨rfl,c.out.set 46 _ rfl rfl m,(Kept.refl _ _).setCell (.inl F) _⟩
def ajn (c e b)(g:af b)(a:Nat)(k:G a)(f)(d:Hid (E f c e b)):
 an 352 #[.pointer (some ⟨c,38,none⟩),j 833,j a] (.tuple #[]) [c] c e ({b with c:={b.c with Wm:=aI a 1}}) f:=by
 have h:=d.out.YL;have i:=d.out.Wb;have l:bits .andNot .i64 (a:Int) 1=((aI a 1:Nat):Int):=gs a 1 m m;clear g;go_enter func352,hD;go_wp2_with fail;go_end0;exact⟨rfl,d.out.set 47 _ rfl rfl m,(Kept.refl _ _).setCell (.inl F) _⟩
def ajo (b e a)(g:af a)(d:Nat)(k:G d)(f)(c:Hid (E f b e a)):
 an 352 #[.pointer (some ⟨b,38,none⟩),j 834,j d] (.tuple #[]) [b] b e ({a with c:={a.c with Wx:=d}}) f:=by
 have h:=c.out.Y5;have i:=c.out.Wb;clear g;go_enter func352,hD;go_wp2_with fail;go_end0;exact⟨rfl,c.out.set 48 _ rfl rfl m,(Kept.refl _ _).setCell (.inl F) _⟩
def ajp (b e a)(g:af a)(d:Nat)(k:G d)(f)(c:Hid (E f b e a)):
 an 352 #[.pointer (some ⟨b,38,none⟩),j 835,j d] (.tuple #[]) [b] b e ({a with c:={a.c with WB:=d}}) f:=by
 have h:=c.out.Y6;have i:=c.out.Wb;clear g;go_enter func352,hD;go_wp2_with fail;go_end0;exact⟨rfl,c.out.set 49 _ rfl rfl m,(Kept.refl _ _).setCell (.inl F) _⟩
def ajq (c e b)(g:af b)(a:Nat)(k:G a)(f)(d:Hid (E f c e b)):
 an 352 #[.pointer (some ⟨c,38,none⟩),j 836,j a] (.tuple #[]) [c] c e ({b with c:={b.c with Wo:=a&&&546}}) f:=by
 have h:=d.out.Yr;have i:=d.out.Wb;have l:bits .and .i64 (a:Int) 546=((a&&&546:Nat):Int):=bm a 546 m m;clear g;go_enter func352,hD;go_wp2_with fail;go_end0;exact⟨rfl,d.out.set 42 _ rfl rfl m,(Kept.refl _ _).setCell (.inl F) _⟩
def ai9 (b e a)(g:af a)(d:Nat)(k:G d)(f)(c:Hid (E f b e a)):
 an 353 #[.pointer (some ⟨b,38,none⟩),j 2816,j d] (.tuple #[]) [b] b e ({a with c:={a.c with Wy:=d}}) f:=by
 have h:=c.out.Yb;have i:=c.out.Wb;clear g;go_enter func353,ntmps353;go_wp2_with fail;go_end0;exact⟨rfl,c.out.set 57 _ rfl rfl m,(Kept.refl _ _).setCell (.inl F) _⟩
def ajb (b e a)(g:af a)(d:Nat)(k:G d)(f)(c:Hid (E f b e a)):
 an 353 #[.pointer (some ⟨b,38,none⟩),j 2944,j d] (.tuple #[]) [b] b e ({a with c:={a.c with WN:=d}}) f:=by
 have h:=c.out.Yc;have i:=c.out.Wb;clear g;go_enter func353,ntmps353;go_wp2_with fail;go_end0;exact⟨rfl,c.out.set 58 _ rfl rfl m,(Kept.refl _ _).setCell (.inl F) _⟩
def aja (b e a)(g:af a)(d:Nat)(k:G d)(f)(c:Hid (E f b e a)):
 an 353 #[.pointer (some ⟨b,38,none⟩),j 2818,j d] (.tuple #[]) [b] b e ({a with c:={a.c with ret:=d}}) f:=by
 have h:=c.out.XG;have i:=c.out.Wb;clear g;go_enter func353,ntmps353;go_wp2_with fail;go_end0;exact⟨rfl,c.out.set 59 _ rfl rfl m,(Kept.refl _ _).setCell (.inl F) _⟩
def ajc (b e a)(g:af a)(d:Nat)(k:G d)(f)(c:Hid (E f b e a)):
 an 353 #[.pointer (some ⟨b,38,none⟩),j 2946,j d] (.tuple #[]) [b] b e ({a with c:={a.c with We:=d}}) f:=by
 have h:=c.out.XH;have i:=c.out.Wb;clear g;go_enter func353,ntmps353;go_wp2_with fail;go_end0;exact⟨rfl,c.out.set 60 _ rfl rfl m,(Kept.refl _ _).setCell (.inl F) _⟩
def ajD (b:Nat)(a c:Int)(e:(a==256)=false)(f:(a==260)=false)(g:(a==261)=false)(h:(a==262)=false)(i:(a==320)=false)(k:(a==321)=false)(l:(a==322)=false)(m:(a==323)=false)(n:(a==324)=false)(o:(a==384)=false)(d:D):
 O 351 #[.pointer (some ⟨b,38,none⟩),j a,j c] (.tuple #[]) d:=by
 go_enter iS,iT;exact r1
def eZ (a:N)(b:Int)(c:Nat):N:=
 if b=256 then{a with c:={a.c with V5:=dc a.c.V5 c 786722}}else if b=260 then{a with c:={a.c with Wd:=dc a.c.Wd c a.c.V9}}else if b=261 then{a with c:={a.c with WH:=aI c 2}}else if b=262 then{a with c:={a.c with WA:=c&&&7}}else if b=320 then{a with c:={a.c with WR:=c}}else if b=321 then{a with c:={a.c with Wu:=aI c 1}}else if b=322 then{a with c:={a.c with WD:=c}}else if b=323 then{a with c:={a.c with WI:=c}}else if b=324 then{a with c:={a.c with Wo:=dc a.c.Wo c (a.c.V9&&&2)}}else if b=384 then{a with c:={a.c with Wf:=c}}else a
def ajs (c g b)(h:af b)(e:Int)(d:Nat)(i:G d)(f)(a:Hid (E f c g b)):
 an 351 #[.pointer (some ⟨c,38,none⟩),j e,j d] (.tuple #[]) [c] c g (eZ b e d) f:=by
 by_cases k:e=256
 . subst k;exact ajt c g b h d i f a
 by_cases l:e=260
 . subst l;exact aju c g b h d i f a
 by_cases m:e=261
 . subst m;exact ajv c g b h d i f a
 by_cases n:e=262
 . subst n;exact ajw c g b h d i f a
 by_cases o:e=320
 . subst o;exact ajx c g b h d i f a
 by_cases p:e=321
 . subst p;exact ajy c g b h d i f a
 by_cases q:e=322
 . subst q;exact ajz c g b h d i f a
 by_cases r:e=323
 . subst r;exact ajA c g b h d i f a
 by_cases s:e=324
 . subst s;exact ajB c g b h d i f a
 by_cases t:e=384
 . subst t;exact ajC c g b h d i f a
 rw[show eZ b e d=b by unfold eZ;simp[k,l,m,n,o,p,q,r,s,t]];refine(ajD c e d (by simp[k]) (by simp[l]) (by simp[m]) (by simp[n]) (by simp[o]) (by simp[p]) (by simp[q]) (by simp[r]) (by simp[s]) (by simp[t]) f).mono ?_;exact Af
def ajr (b:Nat)(a c:Int)(e:(a==768)=false)(f:(a==770)=false)(g:(a==771)=false)(h:(a==772)=false)(i:(a==773)=false)(k:(a==774)=false)(l:(a==800)=false)(m:(a==832)=false)(n:(a==833)=false)(o:(a==834)=false)(p:(a==835)=false)(q:(a==836)=false)(d:D):
 O 352 #[.pointer (some ⟨b,38,none⟩),j a,j c] (.tuple #[]) d:=by
 go_enter func352,hD;exact r1
def eu (a:N)(b:Int)(c:Nat):N:=
 if b=768 then{a with c:={a.c with V5:=hw a.c.V5 c}}else if b=770 then{a with c:={a.c with WG:=c&&&46079}}else if b=771 then{a with c:={a.c with V9:=c&&&546}}else if b=772 then{a with c:={a.c with Wd:=c&&&2730}}else if b=773 then{a with c:={a.c with Wz:=aI c 2}}else if b=774 then{a with c:={a.c with Wp:=c&&&7}}else if b=800 then{a with c:={a.c with W8:=c&&&5}}else if b=832 then{a with c:={a.c with WK:=c}}else if b=833 then{a with c:={a.c with Wm:=aI c 1}}else if b=834 then{a with c:={a.c with Wx:=c}}else if b=835 then{a with c:={a.c with WB:=c}}else if b=836 then{a with c:={a.c with Wo:=c&&&546}}else a
def aje (c g b)(h:af b)(e:Int)(d:Nat)(i:G d)(f)(a:Hid (E f c g b)):
 an 352 #[.pointer (some ⟨c,38,none⟩),j e,j d] (.tuple #[]) [c] c g (eu b e d) f:=by
 by_cases k:e=768
 . subst k;exact ajf c g b h d i f a
 by_cases l:e=770
 . subst l;exact ajg c g b h d i f a
 by_cases m:e=771
 . subst m;exact ajh c g b h d i f a
 by_cases n:e=772
 . subst n;exact aji c g b h d i f a
 by_cases o:e=773
 . subst o;exact ajj c g b h d i f a
 by_cases p:e=774
 . subst p;exact ajk c g b h d i f a
 by_cases q:e=800
 . subst q;exact ajl c g b h d i f a
 by_cases r:e=832
 . subst r;exact ajm c g b h d i f a
 by_cases s:e=833
 . subst s;exact ajn c g b h d i f a
 by_cases t:e=834
 . subst t;exact ajo c g b h d i f a
 by_cases u:e=835
 . subst u;exact ajp c g b h d i f a
 by_cases v:e=836
 . subst v;exact ajq c g b h d i f a
 rw[show eu b e d=b by unfold eu;simp[k,l,m,n,o,p,q,r,s,t,u,v]];refine(ajr c e d (by simp[k]) (by simp[l]) (by simp[m]) (by simp[n]) (by simp[o]) (by simp[p]) (by simp[q]) (by simp[r]) (by simp[s]) (by simp[t]) (by simp[u]) (by simp[v]) f).mono ?_;exact Af
def ajd (b:Nat)(a c:Int)(e:(a==2816)=false)(g:(a==2944)=false)(f:(a==2818)=false)(h:(a==2946)=false)(d:D):
 O 353 #[.pointer (some ⟨b,38,none⟩),j a,j c] (.tuple #[]) d:=by
 go_enter func353,ntmps353;exact r1
def hs (a:N)(b:Int)(c:Nat):N:=
 if b=2816 then{a with c:={a.c with Wy:=c}}else if b=2944 then{a with c:={a.c with WN:=c}}else if b=2818 then{a with c:={a.c with ret:=c}}else if b=2946 then{a with c:={a.c with We:=c}}else a
def ai8 (c g b)(h:af b)(e:Int)(d:Nat)(i:G d)(f)(a:Hid (E f c g b)):
 an 353 #[.pointer (some ⟨c,38,none⟩),j e,j d] (.tuple #[]) [c] c g (hs b e d) f:=by
 by_cases k:e=2816
 . subst k;exact ai9 c g b h d i f a
 by_cases m:e=2944
 . subst m;exact ajb c g b h d i f a
 by_cases l:e=2818
 . subst l;exact aja c g b h d i f a
 by_cases n:e=2946
 . subst n;exact ajc c g b h d i f a
 rw[show hs b e d=b by unfold hs;simp[k,m,l,n]];refine(ajd c e d (by simp[k]) (by simp[m]) (by simp[l]) (by simp[n]) f).mono ?_;exact Af
end
end Go.Proofs.YtmlgonbhoknoiaaGreatDoor
