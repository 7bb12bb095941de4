import Derived.Test.YtmlgonbhoknoiabGreatDoorJAJ
import Derived.Test.YtmlgonbhoknoiabGreatDoorJAK
set_option maxHeartbeats 8000000
set_option maxRecDepth 100000
set_option linter.all false
namespace Go.Proofs.YtmlgonbhoknoiabGreatDoor
open Go.RowKit Go.Proofs.Tryz
def EV (c e:Nat)(b:P)(g:aS b)(a:Nat)(i:2147483648<=a)(f:a-2147483648+4<=b.o.length)(d:D)(h:Hid (ap d c e b)):
 O 393 #[I c,j a,j 4] (j (bz b a)) d:=
 yd c e b g a (a-2147483648) 4 (by omega) (by omega) (by omega) f d h
def EZ (c d:Nat)(a:P)(m:aS a)(g:Int)(p b:Nat)(k:Int)(s:k=(b:Int))(t:g-2147483648=p)(q:1<=b)(r:b<=4)(o:p+b<=a.o.length)(e:Nat)(i:Int)(n:i=(e:Int))(u:G e)(f:D)(v:Hid (ap f c d a)):
 Calls prog 428 #[I c,j g,j k,j i] f fun l h=>l=.returned (.tuple #[])/\ap h c d {a with o:=bt a.o p b e}/\Kept [d] f h:=by
 subst n;subst s;exact EY c d a m g p b t q r o e u f v
theorem aev (U g ak aq h:Nat)(c:ai)(Q:aS c.b)(r k n mode:Nat)(a9:r<34359738368)(bb:G k)(P:n=0\/n=1\/n=2)(aF:mode=0\/mode=1)(e:D)(a:Hid (V e U g ak aq h c)):
 Calls prog 415 #[I U,j r,j 0,j k,j n,j mode] e fun u i=>u=.returned (.tuple #[j (fX c.b c.f r k n mode).1.1,j (fX c.b c.f r k n mode).1.2])/\V i U g ak aq h {c with b:=(fX c.b c.f r k n mode).2}/\Kept [g,h] e i:=by
 have aV:=a.out.V8;obtain⟨f,S⟩:=y (dd r k 0);obtain⟨X,am⟩:=y (k/4096);obtain⟨T,al⟩:=y (X%1024);have aW:(k:Int).tdiv 4096=(X:Int):=kl;have aX:(X:Int).tmod 1024=(T:Int):=fc;have aC:f=r+T*4:=by rw[S,al,am];rfl
 have aY:(r:Int)+(T:Int)*4=(f:Int):=J;have a6:T<1024:=J;have a8:G X:=J;have a5:f<34359742464:=J;have o:=l (iN g h f 4 m m m m c.b.o.length Q.o e a.out.Wt.V8);obtain⟨R,d⟩:=y (fX c.b c.f r k n mode);rw[<-d];unfold fX at d;rw[<-S]at d;cases v:aZ (f:Int) 4 c.b.o.length with
 |false=>
  rw[v]at o;rw[v,B rfl]at d;subst d;clear v S am al aC Q P aF;go_enter mR,mS;go_wp2_with(go_at_call 392;refine o.out.mono ?_;rintro u bf ⟨rfl,rfl⟩);go_ret2;exact⟨rfl,a.out,Kept.refl _ _⟩
 |true=>
  rw[v]at o;rw[v,z (by simp)]at d;obtain⟨av,aw⟩:=jV v;have N:=l (EV g h c.b Q f av aw e (l a.out.Wt));have q:=nJ c.b f;obtain⟨b,aE⟩:=y (bz c.b f);rw[<-aE]at N q d;have W:=l (fun(an:Nat) (aK:Int) (P:aK=(an:Int)) (aR:G an)=>EZ g h c.b Q f (f-2147483648) 4 4 rfl m m m m an aK P aR e (l a.out.Wt));have w:=l (E0 U g ak aq h c b n mode q P aF e a);have x:=l (e8 b 0 0 rfl q m e);have A:=l (e8 b 1 1 rfl q m e);have C:=l (e8 b 2 2 rfl q m e);have E:=l (e8 b 3 3 rfl q m e);have H:=l (e8 b 4 4 rfl q m e);have K:=l (e8 b 6 6 rfl q m e);have L:=l (e8 b 7 7 rfl q m e);unfold fN kt at d;obtain⟨aO,Z⟩:=y (aa b 0);obtain⟨aP,ab⟩:=y (aa b 1);obtain⟨au,ac⟩:=y (aa b 2);obtain⟨aQ,ad⟩:=y (aa b 3);obtain⟨aU,ah⟩:=y (aa b 4);obtain⟨aN,s⟩:=y (aa b 6);obtain⟨ar,t⟩:=y (aa b 7);obtain⟨aT,aj⟩:=y (g4 c.f b n mode);rw[<-Z]at x;rw[<-ab]at A;rw[<-ac]at C;rw[<-ad]at E;rw[<-ah]at H;rw[<-s]at K;rw[<-t]at L;rw[<-aj]at w;rw[<-Z,<-ab,<-ac,<-ad,<-s,<-t,<-aj]at d;try rw[<-ah]at d
  obtain⟨p,aH⟩:=y (b/1024);obtain⟨ao,aG⟩:=y (k%4096);have a0:(b:Int).tdiv 1024=(p:Int):=kl;have a1:(k:Int).tmod 4096=(ao:Int):=fc;have a7:p<4194304:=J;have aI:gF 0=4096:=rfl;rw[aI,<-aH,<-aG]at d;obtain⟨Y,aJ⟩:=y (p*4096);have a2:(p:Int)*4096=(Y:Int):=J;have ba:Y<17179869184:=J;rw[<-aJ]at d;obtain⟨O,ax⟩:=y (Y+ao);have a3:(Y:Int)+(ao:Int)=(O:Int):=J;have a4:O<17592186044416:=J;rw[<-ax]at d;have ae:b/64%2=0->b+64<4294967296:=J;have af:b/128%2=0->b+128<4294967296:=J;have ag:b/64%2=0->b/128%2=0->b+192<4294967296:=J;have aL:aN=false->b/64%2=0:=KR;have aM:ar=false->b/128%2=0:=KX;have bc:((b:Int)+64 !=(b:Int))=true:=M;have bd:((b:Int)+128 !=(b:Int))=true:=M;have be:((b:Int)+64+128 !=(b:Int))=true:=M;have aD:Hid (b/64%2=0->Calls prog 428 #[I g,j f,j 4,j ((b:Int)+64)] e fun u i=>u=.returned (.tuple #[])/\ap i g h {c.b with o:=bt c.b.o (f-2147483648) 4 (b+64)}/\Kept [h] e i):=K7;have aA:Hid (b/128%2=0->Calls prog 428 #[I g,j f,j 4,j ((b:Int)+128)] e fun u i=>u=.returned (.tuple #[])/\ap i g h {c.b with o:=bt c.b.o (f-2147483648) 4 (b+128)}/\Kept [h] e i):=Lg;have ay:Hid (b/64%2=0->b/128%2=0->Calls prog 428 #[I g,j f,j 4,j ((b:Int)+64+128)] e fun u i=>u=.returned (.tuple #[])/\ap i g h {c.b with o:=bt c.b.o (f-2147483648) 4 (b+192)}/\Kept [h] e i):=Lm;have az:=l aL;have aB:=l aM;clear aL aM ae af ag W v S am al aC Q Z ab ac ad ah s t aj aE aH aG aI aJ ax av aw;cases aO
  . exact vL
  cases aP
  . cases au
    . cases aQ
      . exact vL
      . exact Ac
    . exact vL
  . cases au
    . exact Ac
    . exact Ac
theorem aew (U h Y ad i:Nat)(c:ai)(R:aS c.b)(v k n mode:Nat)(bp:v<34359738368)(a7:G k)(Q:n=0\/n=1\/n=2)(ar:mode=0\/mode=1)(e:D)(a:Hid (V e U h Y ad i c)):
 Calls prog 415 #[I U,j v,j 1,j k,j n,j mode] e fun f q=>f=.returned (.tuple #[j (fB c.b c.f v k n mode).1.1,j (fB c.b c.f v k n mode).1.2])/\V q U h Y ad i {c with b:=(fB c.b c.f v k n mode).2}/\Kept [h,i] e q:=by
 have ba:=a.out.V8;obtain⟨g,Z⟩:=y (dd v k 1);obtain⟨ac,av⟩:=y (k/4194304);obtain⟨ab,au⟩:=y (ac%1024);have bc:(k:Int).tdiv 4194304=(ac:Int):=kl;have bd:(ac:Int).tmod 1024=(ab:Int):=fc;have aK:g=v+ab*4:=by rw[Z,au,av];unfold dd;rw[show gF 1=4194304 from rfl]
 have be:(v:Int)+(ab:Int)*4=(g:Int):=J;have bm:ab<1024:=J;have bo:G ac:=J;have bl:g<34359742464:=J;have o:=l (iN h i g 4 m m m m c.b.o.length R.o e a.out.Wt.V8);obtain⟨P,d⟩:=y (fB c.b c.f v k n mode);rw[<-d];unfold fB at d;rw[<-Z]at d;cases O:aZ (g:Int) 4 c.b.o.length with
 |false=>
  rw[O]at o;rw[O,B rfl]at d;subst d;clear O Z av au aK R Q ar;as_aux_lemma=>
   go_enter mR,mS;go_wp2_with(go_at_call 392;refine o.out.mono ?_;rintro f r ⟨rfl,rfl⟩);exact ajx
 |true=>
  rw[O]at o;rw[O,z (by simp)]at d;obtain⟨aH,aI⟩:=jV O;have N:=l (EV h i c.b R g aH aI e (l a.out.Wt));have u:=nJ c.b g;obtain⟨b,aN⟩:=y (bz c.b g);rw[<-aN]at N u d;have W:=l (fun(aw:Nat) (aU:Int) (Q:aU=(aw:Int)) (a6:G aw)=>EZ h i c.b R g (g-2147483648) 4 4 rfl m m m m aw aU Q a6 e (l a.out.Wt));have w:=l (E0 U h Y ad i c b n mode u Q ar e a);have x:=l (e8 b 0 0 rfl u m e);have A:=l (e8 b 1 1 rfl u m e);have C:=l (e8 b 2 2 rfl u m e);have E:=l (e8 b 3 3 rfl u m e);have H:=l (e8 b 4 4 rfl u m e);have K:=l (e8 b 6 6 rfl u m e);have L:=l (e8 b 7 7 rfl u m e);unfold fN kt at d;obtain⟨aY,aj⟩:=y (aa b 0);obtain⟨a0,ak⟩:=y (aa b 1);obtain⟨aG,al⟩:=y (aa b 2);obtain⟨a1,am⟩:=y (aa b 3);obtain⟨a2,an⟩:=y (aa b 4);obtain⟨aE,s⟩:=y (aa b 6);obtain⟨ah,t⟩:=y (aa b 7);obtain⟨a8,ao⟩:=y (g4 c.f b n mode);rw[<-aj]at x;rw[<-ak]at A;rw[<-al]at C;rw[<-am]at E;rw[<-an]at H;rw[<-s]at K;rw[<-t]at L;rw[<-ao]at w;rw[<-aj,<-ak,<-al,<-am,<-s,<-t,<-ao]at d;try rw[<-an]at d
  obtain⟨p,aP⟩:=y (b/1024);obtain⟨ax,aO⟩:=y (k%4194304);have bf:(b:Int).tdiv 1024=(p:Int):=kl;have bg:(k:Int).tmod 4194304=(ax:Int):=fc;have bn:p<4194304:=J;have aR:gF 1=4194304:=rfl;rw[aR,<-aP,<-aO]at d;obtain⟨X,aQ⟩:=y (p%1024);have bh:(p:Int).tmod 1024=(X:Int):=fc;have a3:((X:Int) !=0)=!decide (X=0):=fI;rw[<-aQ]at d;obtain⟨aX,aq⟩:=y (decide (X=0));rw[<-aq]at a3;have aM:(X=0)=(aX=true):=by rw[aq];simp
  simp only[aM]at d;obtain⟨S,aT⟩:=y (p*4096);have bi:(p:Int)*4096=(S:Int):=J;have bq:S<17179869184:=J;rw[<-aT]at d;have aF:=l (aev U h Y ad i c R S k n mode m a7 Q ar e a);obtain⟨T,aJ⟩:=y (S+ax);have bj:(S:Int)+(ax:Int)=(T:Int):=J;have bk:T<17592186044416:=J;rw[<-aJ]at d;have ae:b/64%2=0->b+64<4294967296:=J;have af:b/128%2=0->b+128<4294967296:=J;have ag:b/64%2=0->b/128%2=0->b+192<4294967296:=J;have aV:aE=false->b/64%2=0:=KR;have aW:ah=false->b/128%2=0:=KX;have br:((b:Int)+64 !=(b:Int))=true:=M;have bs:((b:Int)+128 !=(b:Int))=true:=M;have bu:((b:Int)+64+128 !=(b:Int))=true:=M;have aD:Hid (b/64%2=0->Calls prog 428 #[I h,j g,j 4,j ((b:Int)+64)] e fun f q=>f=.returned (.tuple #[])/\ap q h i {c.b with o:=bt c.b.o (g-2147483648) 4 (b+64)}/\Kept [i] e q):=K7;have aA:Hid (b/128%2=0->Calls prog 428 #[I h,j g,j 4,j ((b:Int)+128)] e fun f q=>f=.returned (.tuple #[])/\ap q h i {c.b with o:=bt c.b.o (g-2147483648) 4 (b+128)}/\Kept [i] e q):=Lg;have ay:Hid (b/64%2=0->b/128%2=0->Calls prog 428 #[I h,j g,j 4,j ((b:Int)+64+128)] e fun f q=>f=.returned (.tuple #[])/\ap q h i {c.b with o:=bt c.b.o (g-2147483648) 4 (b+192)}/\Kept [i] e q):=Lm;obtain⟨aC,aL⟩:=y (g-2147483648);simp only[<-aL]at d aD aA ay;clear aL;have az:=l aV;have aB:=l aW;clear aV aW ae af ag W O Z av au aK R aj ak al am an s t ao aN aP aO aR aT aJ aH aI aQ aq aM;cases aY
  . exact nh
  cases a0
  . cases aG
    . cases a1
      . cases a2
        . cases aE
          . cases ah
            . replace d:P=fX c.b c.f S k n mode:=by rw[d];simp
              rw[<-d]at aF;clear d;obtain⟨⟨bv,bb⟩,a9⟩:=P;as_aux_lemma=>
               go_enter mR,mS;go_wp2_with(first|(first|(go_at_call 392;refine o.out.mono ?_;rintro f r ⟨rfl,rfl⟩)|(go_at_call 393;refine N.out.mono ?_;rintro f r ⟨rfl,rfl⟩)|(go_at_call 444;refine w.out.mono ?_;rintro f r ⟨rfl,rfl⟩)|(go_at_call 443;first|((with_reducible refine x.out.mono ?_);rintro f r ⟨rfl,rfl⟩)|((with_reducible refine A.out.mono ?_);rintro f r ⟨rfl,rfl⟩)|((with_reducible refine C.out.mono ?_);rintro f r ⟨rfl,rfl⟩)|((with_reducible refine E.out.mono ?_);rintro f r ⟨rfl,rfl⟩)|((with_reducible refine H.out.mono ?_);rintro f r ⟨rfl,rfl⟩)|((with_reducible refine K.out.mono ?_);rintro f r ⟨rfl,rfl⟩)|((with_reducible refine L.out.mono ?_);rintro f r ⟨rfl,rfl⟩)))|(go_at_call 415;refine aF.out.mono ?_;rintro f w3 ⟨rfl,a4,a5⟩));go_ret2;exact⟨rfl,a4,a5⟩
            . exact nh
          . exact nh
        . exact nh
      . exact Ad
    . exact nh
  . cases aG
    . exact Ad
    . exact Ad
section
attribute [local go_sem ↓] Go.wp_at_zero Go.wp_at_succ
def dU (a:N):Nat:=a.c.Wo |||fy a.b |||hh a.b
def ED (a:P)(b:a.Wj<2):fy a<256:=by
 unfold fy;exact ft _ _ 8 m (by cases fO a<;>decide)
def Dh (a:P):hh a<4096:=by unfold hh;split<;>omega
def qA (a:N)(b:af a):dU a<4096:=by
 have d:=b.Wo;have e:=ED a.b b.b.Wj;have c:=Dh a.b;unfold dU;exact ft _ _ 12 (ft _ _ 12 m m) c
def ys (b n a)(g:af a)(w)(c:Hid (E w b n a)):
 aE 126 #[I b] (j (dU a)) w:=by
 have J:=c.out.Yr;have K:=c.out.Yw;have L:=c.out.XP;have M:=c.out.XQ;have N:=c.out.Yx;have O:=c.out.Yy;have P:=c.out.XR;have Q:=c.out.XS;have R:=c.out.XT;have S:=c.out.XK;have T:=c.out.XL;have z:=g.Wo;have B:=ED a.b g.b.Wj;have A:=Dh a.b;have i:=fun W=>l (ail a.b g.b W);have h:=fun W=>l (ag0 a.b g.b.enable W);have v:=g7 a.c.Wo (fy a.b) m m;have x:(a.c.Wo |||fy a.b)<4096:=ft _ _ 12 m m;have k:=g7 (a.c.Wo |||fy a.b) (hh a.b) m m;unfold dU;obtain⟨D,s⟩:=y (fy a.b);obtain⟨p,r⟩:=y (hh a.b);simp only[<-s,<-r]at i h v k|-;obtain⟨F,t⟩:=y (a.c.Wo |||D);rw[<-t]at v k|-;obtain⟨U,u⟩:=y (F |||p);rw[<-u]at k|-;unfold ed at i;unfold bw at h;clear s r t u g z B A x;go_enter func126,ntmps126;go_upto_region 1 with fail;go_region_held3 (fun e=>e.cell? ⟨b,42,none⟩=some (j a.c.Wo)/\e.cell? ⟨b,61,none⟩=some (j a.b.Wj)/\e.cell? ⟨b,62,none⟩=some (j a.b.time)/\e.cell? ⟨b,63,none⟩=some (j a.b.Wh)/\e.cell? ⟨b,64,none⟩=some (j a.b.cmp)/\e.cell? ⟨b,65,none⟩=some (j a.b.Wv)/\e.cell? ⟨b,66,none⟩=some (j a.b.enable)/\e.cell? ⟨b,67,none⟩=some (j a.b.Wr)/\e.cell? ⟨b,68,none⟩=some (.bool a.b.lost)/\e.cell? ⟨b,69,none⟩=some (.string a.b.rx)/\e.cell? ⟨b,70,none⟩=some (.string a.b.Wc)) (first|go_keep|exact⟨d.Yr,d.Yw,d.XP,d.XQ,d.Yx,d.Yy,d.XR,d.XS,d.XT,d.XK,d.XL⟩|exact⟨f.Yr,f.Yw,f.XP,f.XQ,f.Yx,f.Yy,f.XR,f.XS,f.XT,f.XK,f.XL⟩) (first|(go_at_call 185;refine(i _).out.mono ?_;rintro C G ⟨rfl,o⟩;have d:E G b n a:=E.kept c.out.drew o)|(go_at_call 186;refine(h _).out.mono ?_;rintro C H ⟨rfl,q⟩;have f:E H b n a:=E.kept d q));all_goals
  go_wp2_with fail;go_ret;exact⟨rfl,((Kept.refl _ _).drew.trans o).trans q⟩
def b1 (a:N):Nat:=dU a&&&a.c.Wd
def q9 (b e a)(c:af a)(n)(d:Hid (E n b e a)):
 aE 78 #[I b] (j (b1 a)) n:=by
 have v:=d.out.YE;have s:=qA a c;have r:=c.Wd;have k:=bl (dU a) a.c.Wd m m;have f:=l (fun W q=>ys b e a c W q);unfold b1;obtain⟨p,h⟩:=y (dU a);simp only[<-h]at f k|-;obtain⟨x,i⟩:=y (p&&&a.c.Wd);rw[<-i]at k|-;clear h i c r s;go_enter func78,ntmps78;go_upto_region 1 with fail;go_region_held3 (fun o=>o.cell? ⟨b,41,none⟩=some (j a.c.Wd)) (first|go_keep|exact t.YE) (first|(go_at_call 126;refine(f.out _ (l d.out.drew)).mono ?_;rintro w u ⟨rfl,g⟩;have t:E u b e a:=E.kept d.out.drew g));all_goals
  go_wp2_with fail;go_ret;exact⟨rfl,(Kept.refl _ _).drew.trans g⟩
def gu (a:N)(c b:Nat):Bool:=decide (a.mode≠3)&&ct c b
def FF (g n:Nat)(a:N)(b c:Nat)(hd:G b)(h)(k:Hid (E h g n a)):
 O 128 #[I g,j b,j c] (.bool (gu a b c)) h:=by
 have i:=k.out.Xl;have e:=l (ud b c hd);unfold gu;obtain⟨p,f⟩:=y (ct b c);simp only[<-f]at e|-;by_cases d:a.mode=3
 . rw[d]at i|-;clear f d;go_enter func128,ntmps128;go_wp2_with(go_at_call 187;refine(e.out _).mono ?_;rintro m o ⟨rfl,rfl⟩);exact lR
 . have q:((a.mode:Int) !=3)=true:=M;rw[show decide (a.mode≠3)=true by simp[d]];clear f d;go_enter func128,ntmps128;go_wp2_with(go_at_call 187;refine(e.out _).mono ?_;rintro m o ⟨rfl,rfl⟩);go_ret;exact⟨by simp,rfl⟩
def qi (a b c d e f g:Bool)(h i:Int):Int:=if(a&& (b ||c))=true then h else if(d&& (e ||(f&&g)))=true then i else -1
def cw (a:N):Int:=qi (!decide (aI (b1 a) a.c.V9=0)) (!decide (a.mode=3)) (aa a.c.V5 3) (!decide (b1 a&&&a.c.V9=0)) (decide (a.mode=0)) (decide (a.mode=1)) (aa a.c.V5 1) (ef (aI (b1 a) a.c.V9)) (ef (b1 a&&&a.c.V9))
def ov (o M a)(c:af a)(R)(H:Hid (E R o M a)):
 aE 79 #[I o] (j (cw a)) R:=by
 have G:=qA a c;have ae:=c.V5;have ad:=c.V9;have ac:b1 a<4096:=by unfold b1;exact bJ gN G
 have r:=l (fun W b=>q9 o M a c W b);have K:=gr (b1 a) a.c.V9 m m;have L:=bl (b1 a) a.c.V9 m m;have e:aI (b1 a) a.c.V9<4294967296:=bJ (h0 _ _) m;have f:(b1 a&&&a.c.V9)<4294967296:=Ht;have g:=l (FM _ e);have h:=l (FM _ f);have p:=fg (aI (b1 a) a.c.V9);have q:=fg (b1 a&&&a.c.V9);have N:bits .and .i64 (a.c.V5:Int) 8=((a.c.V5&&&8:Nat):Int):=bl a.c.V5 8 m m;have P:=fg (a.c.V5&&&8);rw[show decide (a.c.V5&&&8=0)=!aa a.c.V5 3 from dg _ 3,ru,<-N]at P;have O:bits .and .i64 (a.c.V5:Int) 2=((a.c.V5&&&2:Nat):Int):=bl a.c.V5 2 m m;have Q:=fg (a.c.V5&&&2);rw[show decide (a.c.V5&&&2=0)=!aa a.c.V5 1 from dg _ 1,ru,<-O]at Q;have ai:((a.mode:Int) !=3)=!decide (a.mode=3):=by by_cases b:a.mode=3<;>simp[b];omega
 have ag:((a.mode:Int)==0)=decide (a.mode=0):=by by_cases b:a.mode=0<;>simp[b]
 have ah:((a.mode:Int)==1)=decide (a.mode=1):=by by_cases b:a.mode=1<;>simp[b];omega
 unfold cw;obtain⟨s,B⟩:=y (b1 a);simp only[<-B]at r K L g h p q e f|-;obtain⟨i,C⟩:=y (aI s a.c.V9);obtain⟨k,D⟩:=y (s&&&a.c.V9);simp only[<-C]at K g p e|-;simp only[<-D]at L h q f|-;obtain⟨T,t⟩:=y (!decide (i=0));obtain⟨U,u⟩:=y (!decide (a.mode=3));obtain⟨V,v⟩:=y (aa a.c.V5 3);obtain⟨X,w⟩:=y (!decide (k=0));obtain⟨Y,x⟩:=y (decide (a.mode=0));obtain⟨Z,z⟩:=y (decide (a.mode=1));obtain⟨ab,A⟩:=y (aa a.c.V5 1);rw[<-t]at p|-;rw[<-u]at ai|-;rw[<-v]at P|-;rw[<-w]at q|-;rw[<-x]at ag|-;rw[<-z]at ah|-;rw[<-A]at Q|-;obtain⟨ak,d⟩:=y (qi T U V X Y Z ab (ef i) (ef k));rw[<-d];unfold qi at d;have S:=l d;clear d t u v w x z A C D B c G ae ad ac N O e f;go_enter func79,ntmps79;go_wp2_with fail;refine(r.out _ H).mono ?_;rintro J ao ⟨rfl,F⟩;have n:=H.out.kept F;have al:=n.Xl;have am:=n.Xm;have an:=n.YB;go_wp2_with(first|(go_at_call_of 127 (Value.int IntKind.i64 (i:Int));refine(g.out _).mono ?_;rintro J aj ⟨rfl,rfl⟩)|(go_at_call_of 127 (Value.int IntKind.i64 (k:Int));refine(h.out _).mono ?_;rintro J aj ⟨rfl,rfl⟩));all_goals (go_ret;refine⟨eM ?_,F⟩;rw[S.out];simp_all)
def aiP (d h a)(f:af a)(b:Nat)(k:G b)(i)(c:Hid (E i d h a)):
 an 350 #[.pointer (some ⟨d,38,none⟩),j 256,j b] (.tuple #[]) [d] d h ({a with c:={a.c with V5:=c9 a.c.V5 b 786722}}) i:=by
 have n:=c.out.Xm;have o:=c.out.Wb;have p:=f.V5;have e:Hid (∀W,O 259 #[j a.c.V5,j b,j 786722] (j (c9 a.c.V5 b 786722)) W):=l (fun W=>ra a.c.V5 b 786722 m k m W);obtain⟨r,g⟩:=y (c9 a.c.V5 b 786722);simp only[<-g]at e|-;clear g;clear f;go_enter iT,iU;go_wp2_with(go_at_call 259;refine(e.out _).mono ?_;rintro q s ⟨rfl,rfl⟩);exact KE
def aiQ (d h a)(e:af a)(b:Nat)(k:G b)(i)(c:Hid (E i d h a)):
 an 350 #[.pointer (some ⟨d,38,none⟩),j 260,j b] (.tuple #[]) [d] d h ({a with c:={a.c with Wd:=c9 a.c.Wd b a.c.V9}}) i:=by
 have o:=c.out.YE;have p:=c.out.Wb;have n:=c.out.YB;have hd:=e.V9;have q:=e.Wd;have f:Hid (∀W,O 259 #[j a.c.Wd,j b,j a.c.V9] (j (c9 a.c.Wd b a.c.V9)) W):=l (fun W=>ra a.c.Wd b a.c.V9 m k m W);obtain⟨r,g⟩:=y (c9 a.c.Wd b a.c.V9);simp only[<-g]at f|-;clear g;clear e;go_enter iT,iU;go_upto_region 4 with fail;go_region_with(go_at_call 259;refine(f.out _).mono ?_;rintro s t ⟨rfl,rfl⟩);all_goals
  go_wp2_with fail;go_end0;exact⟨rfl,c.out.drew.set 41 _ rfl rfl m,(Kept.refl _ _).drew.setCell (.inl F) _⟩
def aiR (c e b)(g:af b)(a:Nat)(k:G a)(f)(d:Hid (E f c e b)):
 an 350 #[.pointer (some ⟨c,38,none⟩),j 261,j a] (.tuple #[]) [c] c e ({b with c:={b.c with WH:=aI a 2}}) f:=by
 have h:=d.out.Y7;have i:=d.out.Wb;have l:bits .andNot .i64 (a:Int) 2=((aI a 2:Nat):Int):=gr a 2 m m;clear g;go_enter iT,iU;go_wp2_with fail;go_end0;exact⟨rfl,d.out.set 50 _ rfl rfl m,(Kept.refl _ _).setCell (.inl F) _⟩
def aiS (c e b)(g:af b)(a:Nat)(k:G a)(f)(d:Hid (E f c e b)):
 an 350 #[.pointer (some ⟨c,38,none⟩),j 262,j a] (.tuple #[]) [c] c e ({b with c:={b.c with WA:=a&&&7}}) f:=by
 have h:=d.out.Y8;have i:=d.out.Wb;have l:bits .and .i64 (a:Int) 7=((a&&&7:Nat):Int):=bl a 7 m m;clear g;go_enter iT,iU;go_wp2_with fail;go_end0;exact⟨rfl,d.out.set 51 _ rfl rfl m,(Kept.refl _ _).setCell (.inl F) _⟩
def aiT (b e a)(g:af a)(d:Nat)(k:G d)(f)(c:Hid (E f b e a)):
 an 350 #[.pointer (some ⟨b,38,none⟩),j 320,j d] (.tuple #[]) [b] b e ({a with c:={a.c with WR:=d}}) f:=by
 have h:=c.out.Zv;have i:=c.out.Wb;clear g;go_enter iT,iU;go_wp2_with fail;go_end0;exact⟨rfl,c.out.set 52 _ rfl rfl m,(Kept.refl _ _).setCell (.inl F) _⟩
def aiU (c e b)(g:af b)(a:Nat)(k:G a)(f)(d:Hid (E f c e b)):
 an 350 #[.pointer (some ⟨c,38,none⟩),j 321,j a] (.tuple #[]) [c] c e ({b with c:={b.c with Wu:=aI a 1}}) f:=by
 have h:=d.out.YM;have i:=d.out.Wb;have l:bits .andNot .i64 (a:Int) 1=((aI a 1:Nat):Int):=gr a 1 m m;clear g;go_enter iT,iU;go_wp2_with fail;go_end0;exact⟨rfl,d.out.set 53 _ rfl rfl m,(Kept.refl _ _).setCell (.inl F) _⟩
def aiV (b e a)(g:af a)(d:Nat)(k:G d)(f)(c:Hid (E f b e a)):
 an 350 #[.pointer (some ⟨b,38,none⟩),j 322,j d] (.tuple #[]) [b] b e ({a with c:={a.c with WD:=d}}) f:=by
 have h:=c.out.Y9;have i:=c.out.Wb;clear g;go_enter iT,iU;go_wp2_with fail;go_end0;exact⟨rfl,c.out.set 54 _ rfl rfl m,(Kept.refl _ _).setCell (.inl F) _⟩
def aiW (b e a)(g:af a)(d:Nat)(k:G d)(f)(c:Hid (E f b e a)):
 an 350 #[.pointer (some ⟨b,38,none⟩),j 323,j d] (.tuple #[]) [b] b e ({a with c:={a.c with WI:=d}}) f:=by
 have h:=c.out.Za;have i:=c.out.Wb;clear g;go_enter iT,iU;go_wp2_with fail;go_end0;exact⟨rfl,c.out.set 55 _ rfl rfl m,(Kept.refl _ _).setCell (.inl F) _⟩
def aiX (d h a)(e:af a)(b:Nat)(k:G b)(i)(c:Hid (E i d h a)):
 an 350 #[.pointer (some ⟨d,38,none⟩),j 324,j b] (.tuple #[]) [d] d h ({a with c:={a.c with Wo:=c9 a.c.Wo b (a.c.V9&&&2)}}) i:=by
 have o:=c.out.Yr;have p:=c.out.Wb;have n:=c.out.YB;have hd:=e.V9;have s:(a.c.V9&&&2)<4294967296:=bJ gN hd;have u:bits .and .i64 (a.c.V9:Int) 2=((a.c.V9&&&2:Nat):Int):=bl a.c.V9 2 m m;have q:=e.Wo;have f:Hid (∀W,O 259 #[j a.c.Wo,j b,j (a.c.V9&&&2:Nat)] (j (c9 a.c.Wo b (a.c.V9&&&2))) W):=l (fun W=>ra a.c.Wo b (a.c.V9&&&2) m k m W);obtain⟨r,g⟩:=y (c9 a.c.Wo b (a.c.V9&&&2));simp only[<-g]at f|-;clear g;clear e;go_enter iT,iU;go_upto_region 18 with fail;go_region_with(go_at_call 259;refine(f.out _).mono ?_;rintro t v ⟨rfl,rfl⟩);all_goals
  go_wp2_with fail;go_end0;exact⟨rfl,c.out.drew.set 42 _ rfl rfl m,(Kept.refl _ _).drew.setCell (.inl F) _⟩
def aiY (b e a)(g:af a)(d:Nat)(k:G d)(f)(c:Hid (E f b e a)):
 an 350 #[.pointer (some ⟨b,38,none⟩),j 384,j d] (.tuple #[]) [b] b e ({a with c:={a.c with Wf:=d}}) f:=by
 have h:=c.out.Yv;have i:=c.out.Wb;clear g;go_enter iT,iU;go_wp2_with fail;go_end0;exact⟨rfl,c.out.set 56 _ rfl rfl m,(Kept.refl _ _).setCell (.inl F) _⟩
def aiB (d h a)(f:af a)(b:Nat)(n:G b)(i)(c:Hid (E i d h a)):
 an 351 #[.pointer (some ⟨d,38,none⟩),j 768,j b] (.tuple #[]) [d] d h ({a with c:={a.c with V5:=hv a.c.V5 b}}) i:=by
 have o:=c.out.Xm;have p:=c.out.Wb;have k:=f.V5;have e:=l (aib a.c.V5 b k n);obtain⟨r,g⟩:=y (hv a.c.V5 b);simp only[<-g]at e|-;clear g;clear f;go_enter hC,hD;go_wp2_with(go_at_call 380;refine(e.out _).mono ?_;rintro q s ⟨rfl,rfl⟩);exact KE
def aiC (c e b)(g:af b)(a:Nat)(k:G a)(f)(d:Hid (E f c e b)):
 an 351 #[.pointer (some ⟨c,38,none⟩),j 770,j a] (.tuple #[]) [c] c e ({b with c:={b.c with WG:=a&&&46079}}) f:=by
 have h:=d.out.Y1;have i:=d.out.Wb;have l:bits .and .i64 (a:Int) 46079=((a&&&46079:Nat):Int):=bl a 46079 m m;clear g;go_enter hC,hD;go_wp2_with fail;go_end0;exact⟨rfl,d.out.set 39 _ rfl rfl m,(Kept.refl _ _).setCell (.inl F) _⟩
def aiD (c e b)(g:af b)(a:Nat)(k:G a)(f)(d:Hid (E f c e b)):
 an 351 #[.pointer (some ⟨c,38,none⟩),j 771,j a] (.tuple #[]) [c] c e ({b with c:={b.c with V9:=a&&&546}}) f:=by
 have h:=d.out.YB;have i:=d.out.Wb;have l:bits .and .i64 (a:Int) 546=((a&&&546:Nat):Int):=bl a 546 m m;clear g;go_enter hC,hD;go_wp2_with fail;go_end0;exact⟨rfl,d.out.set 40 _ rfl rfl m,(Kept.refl _ _).setCell (.inl F) _⟩
def aiE (c e b)(g:af b)(a:Nat)(k:G a)(f)(d:Hid (E f c e b)):
 an 351 #[.pointer (some ⟨c,38,none⟩),j 772,j a] (.tuple #[]) [c] c e ({b with c:={b.c with Wd:=a&&&2730}}) f:=by
 have h:=d.out.YE;have i:=d.out.Wb;have l:bits .and .i64 (a:Int) 2730=((a&&&2730:Nat):Int):=bl a 2730 m m;clear g;go_enter hC,hD;go_wp2_with fail;go_end0;exact⟨rfl,d.out.set 41 _ rfl rfl m,(Kept.refl _ _).setCell (.inl F) _⟩
def aiF (c e b)(g:af b)(a:Nat)(k:G a)(f)(d:Hid (E f c e b)):
 an 351 #[.pointer (some ⟨c,38,none⟩),j 773,j a] (.tuple #[]) [c] c e ({b with c:={b.c with Wz:=aI a 2}}) f:=by
 have h:=d.out.Y2;have i:=d.out.Wb;have l:bits .andNot .i64 (a:Int) 2=((aI a 2:Nat):Int):=gr a 2 m m;clear g;go_enter hC,hD;go_wp2_with fail;go_end0;exact⟨rfl,d.out.set 43 _ rfl rfl m,(Kept.refl _ _).setCell (.inl F) _⟩
def aiG (c e b)(g:af b)(a:Nat)(k:G a)(f)(d:Hid (E f c e b)):
 an 351 #[.pointer (some ⟨c,38,none⟩),j 774,j a] (.tuple #[]) [c] c e ({b with c:={b.c with Wp:=a&&&7}}) f:=by
 have h:=d.out.Y3;have i:=d.out.Wb;have l:bits .and .i64 (a:Int) 7=((a&&&7:Nat):Int):=bl a 7 m m;clear g;go_enter hC,hD;go_wp2_with fail;go_end0;exact⟨rfl,d.out.set 44 _ rfl rfl m,(Kept.refl _ _).setCell (.inl F) _⟩
def aiH (c e b)(g:af b)(a:Nat)(k:G a)(f)(d:Hid (E f c e b)):
 an 351 #[.pointer (some ⟨c,38,none⟩),j 800,j a] (.tuple #[]) [c] c e ({b with c:={b.c with W8:=a&&&5}}) f:=by
 have h:=d.out.Y4;have i:=d.out.Wb;have l:bits .and .i64 (a:Int) 5=((a&&&5:Nat):Int):=bl a 5 m m;clear g;go_enter hC,hD;go_wp2_with fail;go_end0;exact⟨rfl,d.out.set 45 _ rfl rfl m,(Kept.refl _ _).setCell (.inl F) _⟩
def aiI (b e a)(g:af a)(d:Nat)(k:G d)(f)(c:Hid (E f b e a)):
 an 351 #[.pointer (some ⟨b,38,none⟩),j 832,j d] (.tuple #[]) [b] b e ({a with c:={a.c with WK:=d}}) f:=by
 have h:=c.out.Zu;have i:=c.out.Wb;clear g;go_enter hC,hD;go_wp2_with fail;go_end0;exact⟨rfl,c.out.set 46 _ rfl rfl m,(Kept.refl _ _).setCell (.inl F) _⟩
def aiJ (c e b)(g:af b)(a:Nat)(k:G a)(f)(d:Hid (E f c e b)):
 an 351 #[.pointer (some ⟨c,38,none⟩),j 833,j a] (.tuple #[]) [c] c e ({b with c:={b.c with Wm:=aI a 1}}) f:=by
 have h:=d.out.YL;have i:=d.out.Wb;have l:bits .andNot .i64 (a:Int) 1=((aI a 1:Nat):Int):=gr a 1 m m;clear g;go_enter hC,hD;go_wp2_with fail;go_end0;exact⟨rfl,d.out.set 47 _ rfl rfl m,(Kept.refl _ _).setCell (.inl F) _⟩
def aiK (b e a)(g:af a)(d:Nat)(k:G d)(f)(c:Hid (E f b e a)):
 an 351 #[.pointer (some ⟨b,38,none⟩),j 834,j d] (.tuple #[]) [b] b e ({a with c:={a.c with Wx:=d}}) f:=by
 have h:=c.out.Y5;have i:=c.out.Wb;clear g;go_enter hC,hD;go_wp2_with fail;go_end0;exact⟨rfl,c.out.set 48 _ rfl rfl m,(Kept.refl _ _).setCell (.inl F) _⟩
def aiL (b e a)(g:af a)(d:Nat)(k:G d)(f)(c:Hid (E f b e a)):
 an 351 #[.pointer (some ⟨b,38,none⟩),j 835,j d] (.tuple #[]) [b] b e ({a with c:={a.c with WB:=d}}) f:=by
 have h:=c.out.Y6;have i:=c.out.Wb;clear g;go_enter hC,hD;go_wp2_with fail;go_end0;exact⟨rfl,c.out.set 49 _ rfl rfl m,(Kept.refl _ _).setCell (.inl F) _⟩
def aiM (c e b)(g:af b)(a:Nat)(k:G a)(f)(d:Hid (E f c e b)):
 an 351 #[.pointer (some ⟨c,38,none⟩),j 836,j a] (.tuple #[]) [c] c e ({b with c:={b.c with Wo:=a&&&546}}) f:=by
 have h:=d.out.Yr;have i:=d.out.Wb;have l:bits .and .i64 (a:Int) 546=((a&&&546:Nat):Int):=bl a 546 m m;clear g;go_enter hC,hD;go_wp2_with fail;go_end0;exact⟨rfl,d.out.set 42 _ rfl rfl m,(Kept.refl _ _).setCell (.inl F) _⟩
def aiv (b e a)(g:af a)(d:Nat)(k:G d)(f)(c:Hid (E f b e a)):
 an 352 #[.pointer (some ⟨b,38,none⟩),j 2816,j d] (.tuple #[]) [b] b e ({a with c:={a.c with Wy:=d}}) f:=by
 have h:=c.out.Yb;have i:=c.out.Wb;clear g;go_enter func352,ry;go_wp2_with fail;go_end0;exact⟨rfl,c.out.set 57 _ rfl rfl m,(Kept.refl _ _).setCell (.inl F) _⟩
def aix (b e a)(g:af a)(d:Nat)(k:G d)(f)(c:Hid (E f b e a)):
 an 352 #[.pointer (some ⟨b,38,none⟩),j 2944,j d] (.tuple #[]) [b] b e ({a with c:={a.c with WN:=d}}) f:=by
 have h:=c.out.Yc;have i:=c.out.Wb;clear g;go_enter func352,ry;go_wp2_with fail;go_end0;exact⟨rfl,c.out.set 58 _ rfl rfl m,(Kept.refl _ _).setCell (.inl F) _⟩
def aiw (b e a)(g:af a)(d:Nat)(k:G d)(f)(c:Hid (E f b e a)):
 an 352 #[.pointer (some ⟨b,38,none⟩),j 2818,j d] (.tuple #[]) [b] b e ({a with c:={a.c with ret:=d}}) f:=by
 have h:=c.out.XG;have i:=c.out.Wb;clear g;go_enter func352,ry;go_wp2_with fail;go_end0;exact⟨rfl,c.out.set 59 _ rfl rfl m,(Kept.refl _ _).setCell (.inl F) _⟩
def aiy (b e a)(g:af a)(d:Nat)(k:G d)(f)(c:Hid (E f b e a)):
 an 352 #[.pointer (some ⟨b,38,none⟩),j 2946,j d] (.tuple #[]) [b] b e ({a with c:={a.c with We:=d}}) f:=by
 have h:=c.out.XH;have i:=c.out.Wb;clear g;go_enter func352,ry;go_wp2_with fail;go_end0;exact⟨rfl,c.out.set 60 _ rfl rfl m,(Kept.refl _ _).setCell (.inl F) _⟩
def aiZ (b:Nat)(a c:Int)(e:(a==256)=false)(f:(a==260)=false)(g:(a==261)=false)(h:(a==262)=false)(i:(a==320)=false)(k:(a==321)=false)(l:(a==322)=false)(m:(a==323)=false)(n:(a==324)=false)(o:(a==384)=false)(d:D):
 O 350 #[.pointer (some ⟨b,38,none⟩),j a,j c] (.tuple #[]) d:=by
 go_enter iT,iU;exact sr
def eZ (a:N)(b:Int)(c:Nat):N:=
 if b=256 then{a with c:={a.c with V5:=c9 a.c.V5 c 786722}}else if b=260 then{a with c:={a.c with Wd:=c9 a.c.Wd c a.c.V9}}else if b=261 then{a with c:={a.c with WH:=aI c 2}}else if b=262 then{a with c:={a.c with WA:=c&&&7}}else if b=320 then{a with c:={a.c with WR:=c}}else if b=321 then{a with c:={a.c with Wu:=aI c 1}}else if b=322 then{a with c:={a.c with WD:=c}}else if b=323 then{a with c:={a.c with WI:=c}}else if b=324 then{a with c:={a.c with Wo:=c9 a.c.Wo c (a.c.V9&&&2)}}else if b=384 then{a with c:={a.c with Wf:=c}}else a
def aiO (c g b)(h:af b)(e:Int)(d:Nat)(i:G d)(f)(a:Hid (E f c g b)):
 an 350 #[.pointer (some ⟨c,38,none⟩),j e,j d] (.tuple #[]) [c] c g (eZ b e d) f:=by
 by_cases k:e=256
 . subst k;exact aiP c g b h d i f a
 by_cases l:e=260
 . subst l;exact aiQ c g b h d i f a
 by_cases m:e=261
 . subst m;exact aiR c g b h d i f a
 by_cases n:e=262
 . subst n;exact aiS c g b h d i f a
 by_cases o:e=320
 . subst o;exact aiT c g b h d i f a
 by_cases p:e=321
 . subst p;exact aiU c g b h d i f a
 by_cases q:e=322
 . subst q;exact aiV c g b h d i f a
 by_cases r:e=323
 . subst r;exact aiW c g b h d i f a
 by_cases s:e=324
 . subst s;exact aiX c g b h d i f a
 by_cases t:e=384
 . subst t;exact aiY c g b h d i f a
 rw[show eZ b e d=b by unfold eZ;simp[k,l,m,n,o,p,q,r,s,t]];refine(aiZ c e d (by simp[k]) (by simp[l]) (by simp[m]) (by simp[n]) (by simp[o]) (by simp[p]) (by simp[q]) (by simp[r]) (by simp[s]) (by simp[t]) f).mono ?_;exact AB
def aiN (b:Nat)(a c:Int)(e:(a==768)=false)(f:(a==770)=false)(g:(a==771)=false)(h:(a==772)=false)(i:(a==773)=false)(k:(a==774)=false)(l:(a==800)=false)(m:(a==832)=false)(n:(a==833)=false)(o:(a==834)=false)(p:(a==835)=false)(q:(a==836)=false)(d:D):
 O 351 #[.pointer (some ⟨b,38,none⟩),j a,j c] (.tuple #[]) d:=by
 go_enter hC,hD;exact sr
def eu (a:N)(b:Int)(c:Nat):N:=
 if b=768 then{a with c:={a.c with V5:=hv a.c.V5 c}}else if b=770 then{a with c:={a.c with WG:=c&&&46079}}else if b=771 then{a with c:={a.c with V9:=c&&&546}}else if b=772 then{a with c:={a.c with Wd:=c&&&2730}}else if b=773 then{a with c:={a.c with Wz:=aI c 2}}else if b=774 then{a with c:={a.c with Wp:=c&&&7}}else if b=800 then{a with c:={a.c with W8:=c&&&5}}else if b=832 then{a with c:={a.c with WK:=c}}else if b=833 then{a with c:={a.c with Wm:=aI c 1}}else if b=834 then{a with c:={a.c with Wx:=c}}else if b=835 then{a with c:={a.c with WB:=c}}else if b=836 then{a with c:={a.c with Wo:=c&&&546}}else a
def aiA (c g b)(h:af b)(e:Int)(d:Nat)(i:G d)(f)(a:Hid (E f c g b)):
 an 351 #[.pointer (some ⟨c,38,none⟩),j e,j d] (.tuple #[]) [c] c g (eu b e d) f:=by
 by_cases k:e=768
 . subst k;exact aiB c g b h d i f a
 by_cases l:e=770
 . subst l;exact aiC c g b h d i f a
 by_cases m:e=771
 . subst m;exact aiD c g b h d i f a
 by_cases n:e=772
 . subst n;exact aiE c g b h d i f a
 by_cases o:e=773
 . subst o;exact aiF c g b h d i f a
 by_cases p:e=774
 . subst p;exact aiG c g b h d i f a
 by_cases q:e=800
 . subst q;exact aiH c g b h d i f a
 by_cases r:e=832
 . subst r;exact aiI c g b h d i f a
 by_cases s:e=833
 . subst s;exact aiJ c g b h d i f a
 by_cases t:e=834
 . subst t;exact aiK c g b h d i f a
 by_cases u:e=835
 . subst u;exact aiL c g b h d i f a
 by_cases v:e=836
 . subst v;exact aiM c g b h d i f a
 rw[show eu b e d=b by unfold eu;simp[k,l,m,n,o,p,q,r,s,t,u,v]];refine(aiN c e d (by simp[k]) (by simp[l]) (by simp[m]) (by simp[n]) (by simp[o]) (by simp[p]) (by simp[q]) (by simp[r]) (by simp[s]) (by simp[t]) (by simp[u]) (by simp[v]) f).mono ?_;exact AB
def aiz (b:Nat)(a c:Int)(e:(a==2816)=false)(g:(a==2944)=false)(f:(a==2818)=false)(h:(a==2946)=false)(d:D):
 O 352 #[.pointer (some ⟨b,38,none⟩),j a,j c] (.tuple #[]) d:=by
 go_enter func352,ry;exact sr
def hr (a:N)(b:Int)(c:Nat):N:=
 if b=2816 then{a with c:={a.c with Wy:=c}}else if b=2944 then{a with c:={a.c with WN:=c}}else if b=2818 then{a with c:={a.c with ret:=c}}else if b=2946 then{a with c:={a.c with We:=c}}else a
def aiu (c g b)(h:af b)(e:Int)(d:Nat)(i:G d)(f)(a:Hid (E f c g b)):
 an 352 #[.pointer (some ⟨c,38,none⟩),j e,j d] (.tuple #[]) [c] c g (hr b e d) f:=by
 by_cases k:e=2816
 . subst k;exact aiv c g b h d i f a
 by_cases m:e=2944
 . subst m;exact aix c g b h d i f a
 by_cases l:e=2818
 . subst l;exact aiw c g b h d i f a
 by_cases n:e=2946
 . subst n;exact aiy c g b h d i f a
 rw[show hr b e d=b by unfold hr;simp[k,m,l,n]];refine(aiz c e d (by simp[k]) (by simp[m]) (by simp[l]) (by simp[n]) f).mono ?_;exact AB
end
end Go.Proofs.YtmlgonbhoknoiabGreatDoor
