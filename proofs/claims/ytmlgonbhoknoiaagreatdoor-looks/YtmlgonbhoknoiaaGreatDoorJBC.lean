import Derived.Test.YtmlgonbhoknoiaaGreatDoorJBB
set_option maxHeartbeats 8000000
set_option maxRecDepth 100000
set_option linter.all false
namespace Go.Proofs.YtmlgonbhoknoiaaGreatDoor
open Go.RowKit Go.Proofs.Tryz
section
attribute [local go_sem ↓] Go.wp_at_zero Go.wp_at_succ
def ml (a:Int):Nat:=if a=50 then 1 else 2
def sm (a:ai)(i:ak)(b c:Nat):ai:=
 if i.op=50 then dW {a with res:=b} i.rd (c:Int)
 else if i.op=51 then(if a.res=b then{dW {a with b:=ch a.b b 4 (a.x.getD i.V6 0)} i.rd 0 with res:=0}else{dW a i.rd 1 with res:=0})
 else dW {a with b:=ch a.b b 4 (cp i.op c (a.x.getD i.V6 0))} i.rd (c:Int)
def v9 (b:ai)(i:ak)(a:(Nat×Nat)×P):(Int×Int×Int)×ai:=
 if a.1.2=0 then((am ((b.V3:Int)+i.V4),-1,0),sm {b with b:=(ba a.2 a.1.1 4).2} i a.1.1 (ba a.2 a.1.1 4).1)else((0,l6 a.1.2 (ml i.op),(b.x.getD i.V1 0:Nat)),{b with b:=a.2})
def ir (a:ai)(i:ak):(Int×Int×Int)×ai:=
 if a.x.getD i.V1 0%4=0 then v9 a i (cV a.b a.f (a.x.getD i.V1 0) (ml i.op))else((0,if i.op=50 then 4 else 6,(a.x.getD i.V1 0:Nat)),a)
def acV (c p N n q:Nat)(b:ai)(P:ey b)(i:ak)(bc:aU i)(bI:50<=i.op/\i.op<=60)(w:D)(Y:Hid (V w c p N n q b)):
 Calls prog 399 #[I c,ag i] w fun A f=>A=.returned (cz (ir b i).1)/\V f c p N n q (ir b i).2/\Kept [c,p,q,n] w f:=by
 obtain⟨e,C,d,k,K,u⟩:=i;obtain⟨bp,bq,br,-,-,bK⟩:=id bc;dsimp only at bI bK bp bq br;have bZ:=Y.out.lt;have b0:=Y.out.Wt.lt;have b1:=Y.out.Wt.Ww;have b2:=Y.out.Xc;have b3:=Y.out.WW.lt;have bU:=P.V3;have aS:=P.WE d;have aB:=P.WE k;have bV:(0:Int)<=(d:Int):=J;have bW:(d:Int)<32:=J;have bX:(0:Int)<=(k:Int):=J;have bY:(k:Int)<32:=J;have Z:=l ((Y.out.alloc (.cells #[j e,j C,j d,j k,j K,j u] 53)).alloc (.cells #[j 0,j 0,j 0] 245));have aC:=(bg.new w [j e,j C,j d,j k,j K,j u] 53).alloc (.cells #[j 0,j 0,j 0] 245);have bt:=bg.Yo w (.cells #[j e,j C,j d,j k,j K,j u] 53) [j 0,j 0,j 0] 245;have bs:Kept [c,p,q,n] w ((w.alloc (.cells #[j e,j C,j d,j k,j K,j u] 53)).alloc (.cells #[j 0,j 0,j 0] 245)):=o9;have a3:=Z.out.XM d bq;have a4:=Z.out.XM k br;obtain⟨bz,g⟩:=y (fun aA f=>aA=.returned (cz (ir b ⟨e,C,d,k,K,u⟩).1)/\V f c p N n q (ir b ⟨e,C,d,k,K,u⟩).2/\Kept [c,p,q,n] w f:Ending->D->Prop);rw[<-g];have aF:∀aA f,aA=.returned (cz (ir b ⟨e,C,d,k,K,u⟩).1)/\V f c p N n q (ir b ⟨e,C,d,k,K,u⟩).2/\Kept [c,p,q,n] w f->bz aA f:=m3;obtain⟨⟨⟨b5,b6,b7⟩,bQ⟩,a⟩:∃bx,bx=ir b ⟨e,C,d,k,K,u⟩:=⟨_,rfl⟩;rw[<-a]at aF;have bu:=l mF;have bO:=l (oh ((b.V3:Int)+u));have cb:=fk ((b.V3:Int)+u) m;unfold cz gC at *;unfold ir v9 sm at a;dsimp only at a aF;obtain⟨L,O⟩:=fH (ml e);obtain⟨bR,an⟩:=fH ((if e=50 then(4:Int)else 6));have bd:L=0\/L=1\/L=2:=by rw[<-O];unfold ml;split<;>simp
 have aj:=l (fun W Q=>acT c p N n q b P.b P.f (b.x.getD d 0) L aS bd W Q);have ap:=xX P.b b.f (b.x.getD d 0) L;have aW:=EW b.b b.f (b.x.getD d 0) L aS;rw[O,an]at a;obtain⟨⟨⟨t,au⟩,ay⟩,a9⟩:∃bA,bA=cV b.b b.f (b.x.getD d 0) L:=⟨_,rfl⟩;simp only[<-a9]at aj ap aW a;try dsimp only at aj ap aW a
 have bP:=l (qM au L);have az:=l (fun W (Q:V W c p N n q {b with b:=ay})=>xQ p q ay ap (t:Int) 4 m m m m W (l Q.Wt));have aX:=ji ap (t:Int) 4;have aD:(ba ay (t:Int) 4).1<4294967296:=iC ap (t:Int) 4 R;obtain⟨⟨aY,a7⟩,bb⟩:∃bB,bB=ba ay (t:Int) 4:=⟨_,rfl⟩;simp only[<-bb]at az aX aD a;try dsimp only at az aX aD a
 obtain⟨a2,bh⟩:∃a1,a1=b.x.getD d 0:=⟨_,rfl⟩;obtain⟨aE,bi⟩:∃a1,a1=b.x.getD k 0:=⟨_,rfl⟩;simp only[<-bh,<-bi]at aj aW a aS aB a3 a4;have bw:=l (xM e aY aE aD aB);have bH:=sj e aY aE aD aB;generalize cp e aY aE=b8 at *;have a8:=l (fun aZ hu W (Q:V W c p N n q {b with b:=a7})=>xT p q a7 aX (t:Int) 4 m m m m aZ hu W (l Q.Wt));have a5:=l (fun r aZ W Q=>qN c p N n q r C bp aZ W Q);generalize l6 au L=bS at *;generalize am ((b.V3:Int)+u)=bT at *;obtain⟨o,be⟩:=y (a2%4);have b4:(a2:Int).tmod 4=(o:Int):=fc;rw[<-be]at a;clear g a9 bb bh bi be P bc bd;unfold ag;dsimp only;go_enter func399,ntmps399;go_upto_region 1 with fail;go_region_held3 (fun f=>f.cell? ⟨c,2,none⟩=some (.slice (some ⟨n,0,none⟩) 32 32)/\f.cell? ⟨w.heap.size,2,none⟩=some (j d)/\f.cell? ⟨n,d,none⟩=some (j a2)) (first|exact⟨Z.out.drew.c2,aC.drew.cell 2 _ rfl,by simpa using a3⟩) (fail);all_goals
  go_upto_region 2 with fail;go_region_held3 (fun f=>f.cell? ⟨c,2,none⟩=some (.slice (some ⟨n,0,none⟩) 32 32)/\f.cell? ⟨w.heap.size,3,none⟩=some (j k)/\f.cell? ⟨n,k,none⟩=some (j aE)) (first|exact⟨Z.out.drew.drew.c2,aC.drew.drew.cell 3 _ rfl,by simpa using a4⟩) (fail);all_goals
   clear a3 a4;have ax:=l Z.out.drew.drew;have x:=aC.drew.drew;have aw:=bt.drew.drew;have av:=bs.drew.drew;clear Z aC bt bs;have bj:=x.cell 0 _ rfl;have bk:=x.cell 1 _ rfl;have bl:=x.cell 2 _ rfl;have bm:=x.cell 3 _ rfl;have bn:=x.cell 4 _ rfl;have bo:=x.cell 5 _ rfl;by_cases al:e=50
   . subst al;rw[B rfl]at a an;unfold ml at O;rw[B rfl]at O;subst O an;by_cases ah:o=0
     . rw[B ah]at a;subst ah;go_wp2_with fail;refine(aj.out _ ax).mono ?_;rintro A w3 ⟨rfl,aK,S⟩;have E:=l aK;have ao:=x.more S ad;have af:=aw.more S ad;have ae:=av.trans (S.mono F);clear ax x aw av bj bk bl bm bn bo;by_cases ab:au=0
       . rw[B ab]at a;subst ab;have bC:=E.out.V8;go_wp2_with fail;refine(az.out _ E.out).mono ?_;rintro A a0 ⟨rfl,aQ,G⟩;have aM:=E.out.Xy (G.mono F) aQ;have o:=l aM;have v:=ao.more G ad;have X:=af.more G ad;have U:=ae.trans (G.mono F);clear E ao af ae;have aT:=v.cell 0 _ rfl;have aV:=v.cell 1 _ rfl;obtain⟨bD,-,-,-,-,bE,bG,-,-,-,-,-,-,-,-⟩:=o.out;simp only[bM]at a;obtain⟨⟨rfl,rfl,rfl⟩,rfl⟩:=a;have aI:=l (o.out.YA t);have aa:=v.more (F:=[c]) ((Kept.refl [c] a0).Xb 5 (j (t:Int))) ad;have aH:=X.more (F:=[c]) ((Kept.refl [c] a0).Xb 5 (j (t:Int))) ad;have aG:=U.Xb 5 (j (t:Int));exact KP
       . exact KQ
     . exact KR
   . rw[z al]at an;unfold ml at O;rw[z al]at O;have b9:(e==50)=false:=by simp[al]
     subst O an;by_cases ah:o=0
     . rw[B ah]at a;subst ah;go_wp2_with fail;refine(aj.out _ ax).mono ?_;rintro A w3 ⟨rfl,aK,S⟩;have E:=l aK;have ao:=x.more S ad;have af:=aw.more S ad;have ae:=av.trans (S.mono F);clear ax x aw av bj bk bl bm bn bo;by_cases ab:au=0
       . rw[B ab]at a;subst ab;have bC:=E.out.V8;go_wp2_with fail;refine(az.out _ E.out).mono ?_;rintro A a0 ⟨rfl,aQ,G⟩;have aM:=E.out.Xy (G.mono F) aQ;have o:=l aM;have v:=ao.more G ad;have X:=af.more G ad;have U:=ae.trans (G.mono F);clear E ao af ae;have aT:=v.cell 0 _ rfl;have aV:=v.cell 1 _ rfl;obtain⟨bD,-,-,-,-,bE,bG,-,-,-,-,-,-,-,-⟩:=o.out;by_cases aO:e=51
         . subst aO;rw[z (by decide),B rfl]at a;by_cases aP:b.res=t
           . rw[B aP]at a;simp only[bM]at a;obtain⟨⟨rfl,rfl,rfl⟩,rfl⟩:=a;have bF:((b.res:Int)==(t:Int))=true:=by rw[aP];simp
             go_wp2_with fail;refine(a8.out _ aB _ o.out).mono ?_;rintro A bL ⟨rfl,aR,H⟩;have aN:=o.out.Xy H aR;have aI:=l aN;have aa:=v.more H ad;have aH:=X.more H ad;have aG:=U.trans (H.mono F);clear o v X U aT aV;have bJ:=aa.cell 1 _ rfl;go_wp2_with fail;refine(a5.out _ _ _ aI).mono ?_;rintro A a6 ⟨rfl,aJ,T⟩;have aq:=aa.more T ad;have ar:=aH.more T ad;have bv:=aG.trans (T.mono F);exact KS
           . rw[z aP]at a;simp only[bM]at a;obtain⟨⟨rfl,rfl,rfl⟩,rfl⟩:=a;have bF:((b.res:Int)==(t:Int))=false:=M;go_wp2_with fail;refine(a5.out _ _ _ o).mono ?_;rintro A a6 ⟨rfl,aJ,T⟩;have aq:=v.more T ad;have ar:=X.more T ad;have bv:=U.trans (T.mono F);exact KS
         . rw[z al,z aO]at a;have ca:(e==51)=false:=by simp[aO]
           simp only[bM]at a;obtain⟨⟨rfl,rfl,rfl⟩,rfl⟩:=a;go_wp2_with(go_at_call 398;refine(bw.out _).mono ?_;rintro A bN ⟨rfl,bf⟩;rw[bf];clear bf bN);refine(a8.out _ bH _ o.out).mono ?_;rintro A bL ⟨rfl,aR,H⟩;have aN:=o.out.Xy H aR;have aI:=l aN;have aa:=v.more H ad;have aH:=X.more H ad;have aG:=U.trans (H.mono F);clear o v X U aT aV;have bJ:=aa.cell 1 _ rfl;exact KP
       . exact KQ
     . exact KR
def g3 (a:ai)(i:ak):Int:=(a.V3:Int)+i.V4
def er (a:Int):Nat:=if a=11\/a=14\/a=16 then 1 else if a=12\/a=15\/a=17 then 2 else 4
def g9 (a:ai)(i:ak)(b:Nat):(Int×Int×Int)×ai:=
 if i.op=1 then((am (g3 a i),-1,0),dW a i.rd (i.V2*4096))
 else if i.op=2 then((am (g3 a i),-1,0),dW a i.rd ((a.V3:Int)+i.V2*4096))
 else if i.op=3 then((am ((a.V3:Int)+i.V2),-1,0),dW a i.rd (g3 a i))
 else if i.op=4 then((am ((gK a i:Int)- (gK a i%2:Nat)),-1,0),dW a i.rd (g3 a i))
 else if 5<=i.op/\i.op<=10 then((am (if holds i.op (a.x.getD i.V1 0) (a.x.getD i.V6 0)=true then(a.V3:Int)+i.V2 else g3 a i),-1,0),a)
 else if 11<=i.op/\i.op<=15 then iv a i (er i.op) (decide (i.op=11\/i.op=12))
 else if 16<=i.op/\i.op<=18 then iG a i (er i.op)
 else if 19<=i.op/\i.op<=27 then((am (g3 a i),-1,0),dW a i.rd (cp i.op (a.x.getD i.V1 0) (am i.V2):Nat))
 else if 50<=i.op/\i.op<=60 then ir a i
 else if 61<=i.op/\i.op<=66 then is a i b
 else if i.op=38\/i.op=39 then((am (g3 a i),-1,0),a)
 else if i.op=40 then((0,8+(a.f.mode:Int),0),a)
 else if i.op=41 then((0,3,a.V3),a)
 else if 67<=i.op/\i.op<=70 then iA a i b
 else((am (g3 a i),-1,0),dW a i.rd (cp i.op (a.x.getD i.V1 0) (a.x.getD i.V6 0):Nat))
end
def fq (b a:Nat):b/2^a%2=(b.testBit a).toNat:=by
 rw[mM];exact Av
def pT (c b:Nat)(d:Bool)(a:Nat):e1 c b d/2^a%2=if b/2^a%2=1 then d.toNat else c/2^a%2:=by
 rw[fq,fq c,fq b];unfold e1;cases d<;>simp only[cv,bi,et,fF]<;>cases c.testBit a<;>cases b.testBit a<;>rfl
def Bu (b d c a:Nat):dc b d c/2^a%2=if c/2^a%2=1 then d/2^a%2 else b/2^a%2:=by
 rw[fq,fq d,fq c,fq b];unfold dc;simp only[et,fF,dd];cases d.testBit a<;>cases c.testBit a<;>cases b.testBit a<;>rfl
def pU (b c a:Nat):aI b c/2^a%2=if c/2^a%2=1 then 0 else b/2^a%2:=by
 rw[fq,fq c,fq b];simp only[et];exact Aw
def pS (b c a:Nat):(b |||c)/2^a%2=if c/2^a%2=1 then 1 else b/2^a%2:=by
 rw[fq,fq c,fq b];simp only[fF];exact Aw
def Bt (b c a:Nat):(b&&&c)/2^a%2=if c/2^a%2=1 then b/2^a%2 else 0:=by
 rw[fq,fq c,fq b];simp only[dd];exact Aw
def jW (a:Nat):a/2048%4=a/2^11%2+2* (a/2^12%2):=by omega
def dL (b a:Nat):b&&&2^a=b/2^a%2*2^a:=by
 rw[fL];unfold ab;exact Av
def e2 (a b c:Nat)(e:b&&&c=0):(a&&&b)+(a&&&c)=a&&& (b |||c):=by
 have f:=n0 (a&&&b) (a&&&b) (a&&&c) (aB _);have g:(a&&&b)&&& (a&&&c)=0:=by
  refine hx fun i=>?_;have d:(b&&&c).testBit i=false:=by rw[e];simp
  rw[dd]at d;simp only[dd,oT];revert d;cases a.testBit i<;>cases b.testBit i<;>cases c.testBit i<;>simp
 rw[l2];omega
def i6 (a b:Nat)(c:a&&&b=0):a+b=a |||b:=by
 have d:=n0 a a b (aB _);omega
def D6 (a:Nat)(O:a&&&8264106=a):a/2^1%2*2+a/2^3%2*8+a/2^5%2*32+a/2^7%2*128+a/2^8%2*256+a/2048%4*2048+a/2^17%2*131072+a/2^18%2*262144+a/2^19%2*524288+a/2^20%2*1048576+a/2^21%2*2097152+a/2^22%2*4194304=a:=by
 have b:a/2048%4*2048=a/2^11%2*2^11+a/2^12%2*2^12:=by rw[jW];omega
 rw[b,show(2:Nat)=2^1 from rfl];have B:a&&&2=a/2^1%2*2:=dL a 1;have K:a&&&8=a/2^3%2*8:=dL a 3;have L:a&&&32=a/2^5%2*32:=dL a 5;have M:a&&&128=a/2^7%2*128:=dL a 7;have N:a&&&256=a/2^8%2*256:=dL a 8;have C:a&&&2048=a/2^11%2*2048:=dL a 11;have D:a&&&4096=a/2^12%2*4096:=dL a 12;have E:a&&&131072=a/2^17%2*131072:=dL a 17;have F:a&&&262144=a/2^18%2*262144:=dL a 18;have G:a&&&524288=a/2^19%2*524288:=dL a 19;have H:a&&&1048576=a/2^20%2*1048576:=dL a 20;have I:a&&&2097152=a/2^21%2*2097152:=dL a 21;have J:a&&&4194304=a/2^22%2*4194304:=dL a 22;have c:=e2 a 2 8 R;have g:=e2 a 10 32 R;have h:=e2 a 42 128 R;have i:=e2 a 170 256 R;have j:=e2 a 426 2048 R;have k:=e2 a 2474 4096 R;have l:=e2 a 6570 131072 R;have m:=e2 a 137642 262144 R;have n:=e2 a 399786 524288 R;have d:=e2 a 924074 1048576 R;have e:=e2 a 1972650 2097152 R;have f:=e2 a 4069802 4194304 R;simp only[Nat.reduceOr,Nat.reducePow]at *;generalize a/2%2=o at *;generalize a/8%2=x at *;generalize a/32%2=y at *;generalize a/128%2=z at *;generalize a/256%2=A at *;generalize a/2048%2=p at *;generalize a/4096%2=q at *;generalize a/131072%2=r at *;generalize a/262144%2=s at *;generalize a/524288%2=t at *;generalize a/1048576%2=u at *;generalize a/2097152%2=v at *;generalize a/4194304%2=w at *;omega
def VJ (a:Nat):a/2^1%2*2+a/2^5%2*32+a/2^8%2*256+a/2^18%2*262144+a/2^19%2*524288=a&&&786722:=by
 have k:a&&&2=a/2^1%2*2:=dL a 1;have n:a&&&32=a/2^5%2*32:=dL a 5;have o:a&&&256=a/2^8%2*256:=dL a 8;have l:a&&&262144=a/2^18%2*262144:=dL a 18;have m:a&&&524288=a/2^19%2*524288:=dL a 19;have b:=e2 a 2 32 R;have c:=e2 a 34 256 R;have d:=e2 a 290 262144 R;have e:=e2 a 262434 524288 R;simp only[Nat.reduceOr,Nat.reducePow]at *;generalize a/2%2=f at *;generalize a/32%2=i at *;generalize a/256%2=j at *;generalize a/262144%2=g at *;generalize a/524288%2=h at *;omega
def ax (a:N)(c:Nat)(b i:Bool):Q:={S a with held:=c,W6:=b,W7:=i}
def aD (a:N)(c:Nat)(b i:Bool):ai:={b:=a.b,f:=ax a c b i,x:=a.x,V3:=a.V3,wait:=a.waits,res:=a.WU}
def b1 (a:N):Prop:=a.W9=!decide (a.WU=0)
def sZ {b:N}(e:aj b){c:Nat}(f:G c)(d i:Bool):ey (aD b c d i):=by
 have a:=e.ok;have g:=a.Wl;refine⟨a.b,?_,a.Wo,a.x,a.WE,a.V3,a.WU⟩;constructor;case mode=>exact a.mode
 case Wl=>show b.c.V5/2048%4=0\/b.c.V5/2048%4=1\/b.c.V5/2048%4=3;omega
 case Wz=>exact a.Wz
 case WK=>exact a.WK
 case Wm=>exact a.Wm
 case Wx=>exact a.Wx
 case WB=>exact a.WB
 case Wp=>exact jw a.Wp R
 case WH=>exact a.WH
 case WR=>exact a.WR
 case Wu=>exact a.Wu
 case WD=>exact a.WD
 case WI=>exact a.WI
 case WA=>exact jw a.WA R
 case WG=>exact a.WG
 case V9=>exact a.V9
 case enable=>exact a.Wd
 case soft=>exact bL a.Wo R
 case Xf=>exact jw a.W8 R
 case Wf=>exact a.Wf
 case Wa=>exact a.Wy
 case Wg=>exact a.WN
 case ret=>exact a.ret
 case We=>exact a.We
 case held=>exact f
 all_goals exact gc _ R
def qs (a:N)(d:Nat)(b i:Bool)(c:Nat)(e:Int):dW (aD a d b i) c e=aD (a6 a c (am e)) d b i:=by
 unfold dW a6;split<;>rfl
def oj (a:Nat)(b:G a):am (a:Int)=a:=by unfold am;omega
def sO (a:Int):er a=au a:=by
 unfold er au ef;repeat' split
 all_goals rfl
def pR (a:Nat)(i:ak):am ((a:Int)+i.V4)=de a i:=by unfold am de;omega
def SB {b:N}(q:aj b)(a:ak)(s:11<=a.op/\a.op<=15)(e:Nat)(d i:Bool):
 iv (aD b e d i) a (er a.op) (decide (a.op=11\/a.op=12))=((if(bU b a).1.1=-1 then(de b.V3 a:Int)else 0,(bU b a).1.1,((bU b a).1.2:Int)),aD (bU b a).2 e d i):=by
 have t:G (aw b a):=word_lt _;have r:=ix a.op;have l:=hl q.ok.b (S b) (aw b a) (au a.op) 1;have k:=hm b.b (S b) (aw b a) (au a.op) 1 t r.1;unfold iv bU;rw[show a2 (aD b e d i).b (aD b e d i).f (gK (aD b e d i) a) (er a.op) 1=a2 b.b (S b) (aw b a) (au a.op) 1 from by rw[sO];rfl];generalize a2 b.b (S b) (aw b a) (au a.op) 1=c at l k;unfold wR jd;by_cases f:c.1.fault=0
 . rw[B f,B f];have j:=wX l c.1 (k.WO f);rw[k.sum f]at j;have p:am (sM (er a.op) (decide (a.op=11\/a.op=12)) (dU c.2 c.1).1)=fs a.op (dU c.2 c.1).1:=by
    generalize (dU c.2 c.1).1=o at j|-;have w:(er a.op:Int)=ef a.op:=by
     rw[sO];unfold au ef;repeat' split
     all_goals rfl
    rw[sO];obtain⟨n,v⟩:=s;have:a.op=11\/a.op=12\/a.op=13\/a.op=14\/a.op=15:=by omega
    rcases this with g|g|g|g|g;all_goals
     rw[g]at j|-;unfold sM fs ga;simp only[show au 11=1 from rfl,show au 12=2 from rfl,show au 13=4 from rfl,show au 14=1 from rfl,show au 15=2 from rfl,show ef 11=1 from rfl,show ef 12=2 from rfl]at j|-;simp
    . congr 1;by_cases h:128<=o
      . rw[B h,B (by omega)]
      . rw[z h,z (by omega)]
    . congr 1;by_cases h:32768<=o
      . rw[B h,B (by omega)]
      . rw[z h,z (by omega)]
    all_goals exact oj _ m
   rw[show({aD b e d i with b:=(dU c.2 c.1).2}:ai)=aD (b.V7 (dU c.2 c.1).2) e d i from rfl,qs,p];exact Lp
 . rw[z f,z f];have u:=kL c.1.fault 1;have n:¬a7 c.1.fault 1=-1:=J;show _=((if a7 (c.1.fault:Int) 1=-1 then _ else _,_,_),_);rw[z n];rfl
def aah {b:N}(j:aj b)(a:ak)(d:Nat)(c i:Bool):
 iG (aD b d c i) a (er a.op)=((if(cB b a).1.1=-1 then(de b.V3 a:Int)else 0,(cB b a).1.1,((cB b a).1.2:Int)),aD (cB b a).2 d c i):=by
 unfold iG cB;rw[show a2 (aD b d c i).b (aD b d c i).f (gK (aD b d c i) a) (er a.op) 2=a2 b.b (S b) (aw b a) (au a.op) 2 from by rw[sO];rfl];generalize a2 b.b (S b) (aw b a) (au a.op) 2=e;unfold xC la;by_cases f:e.1.fault=0
 . rw[B f,B f];exact Lp
 . rw[z f,z f];have h:=kL e.1.fault 2;have g:¬a7 e.1.fault 2=-1:=J;show _=((if a7 (e.1.fault:Int) 2=-1 then _ else _,_,_),_);rw[z g];rfl
def lb {a b k:Nat}(c:a&&&b=a)(d:b&&&k=0):a&&&k=0:=by rw[<-c,yw,d,Nat.and_zero]
def ti {a b k:Nat}(c:a&&&b=a):(a |||k)&&& (b |||k)=a |||k:=by
 have d:=xD c;refine D7 fun i=>?_;have e:=d i;simp only[fF];revert e;cases a.testBit i<;>cases b.testBit i<;>cases k.testBit i<;>simp
def sF {a:N}(g:aj a)(f:Nat)(e i:Bool):bS (ax a f e i) a.b=dV a:=by
 have b:=g.Wo;have q:=g.ok.b.Wj;have h:=i6 _ _ (lb b (k:=8) R);have j:=i6 _ _ (lb b (k:=128) R);have k:=i6 _ _ (lb b (k:=2048) R);have d:=ti (k:=8) b;have o:=ti (k:=128) b;have l:=i6 _ _ (lb d (k:=128) R);have m:=i6 _ _ (lb d (k:=2048) R);have p:=ti (k:=128) d;have c3:=i6 _ _ (lb p (k:=2048) R);have d3:=i6 _ _ (lb o (k:=2048) R);have c4:=i6 _ _ (lb (ti (k:=136) b) (k:=2048) R);unfold bS dV fz hj;rw[show(ax a f e i).soft=a.c.Wo from rfl];have c:a.b.Wj=0\/a.b.Wj=1:=J;rcases c with c|c<;>rw[c]<;>cases fP a.b<;>by_cases n:eO a.b=1<;>simp[n,h,j,k,l,m,c3,c4,d3,Nat.or_assoc]
def PK (b:N)(a:Nat)(d:2816<=a)(e:a<=3327):(bH b a).1=if a=2816\/a=3072 then b.c.Wy else if a=2944\/a=3200 then b.c.WN else if a=2818\/a=3074 then b.c.ret else if a=2946\/a=3202 then b.c.We else if a=3073 then b.b.time else if a=3201 then b.b.Wh else 0:=by
 unfold bH b9;by_cases c:128<=a%256
 . simp only[c,if_true];exact Lq
 . simp only[c,cS];exact Lq
def PH (c:N)(a:Nat)(d:2816<=a)(e:a<=3327):(bH c a).2=decide (a%128<32/\¬a=2817/\¬a=2945):=by
 unfold bH;by_cases b:128<=a%256
 . simp only[b,if_true];exact Lr
 . simp only[b,cS];exact Lr
def BV (d:N)(a:Int)(f:0<=a)(i:a<=4095):eW a=(aA d a).2:=by
 have t1:a.tmod 32=a%32:=iP f;have t2:a.tdiv 32=a/32:=hB f;by_cases g:2816<=a/\a<=3327
 . have b:(aA d a).2=decide (a.toNat%128<32/\¬a.toNat=2817/\¬a.toNat=2945):=by
    unfold aA;rw[z (by omega),z (by omega),B g];exact PH d _ m m
   rw[b];unfold eW jO jc;rw[t1,t2];by_cases c:a=2816\/a=2818\/a=2944\/a=2946\/a=3072\/a=3073\/a=3074\/a=3200\/a=3201\/a=3202
   . rcases c with b|b|b|b|b|b|b|b|b|b<;>subst b<;>decide
   . exact Ls
 . by_cases e:256<=a/\a<=511
   . unfold aA;rw[B e];unfold bQ eW jO jc;rw[t1,t2];by_cases c:a=256\/a=260\/a=261\/a=262\/a=320\/a=321\/a=322\/a=323\/a=324\/a=384
     . rcases c with b|b|b|b|b|b|b|b|b|b<;>subst b<;>rfl
     . rw[z (by simp;omega)];simp only[show ¬a=256 from by omega,show ¬a=260 from by omega,show ¬a=261 from by omega,show ¬a=262 from by omega,show ¬a=320 from by omega,show ¬a=321 from by omega,show ¬a=322 from by omega,show ¬a=323 from by omega,show ¬a=324 from by omega,show ¬a=384 from by omega,cS];repeat' split
       all_goals first|rfl|(simp only[cC,mX]at *;omega)
   . by_cases h:768<=a/\a<=1023
     . unfold aA;rw[z e,B h];unfold bO eW jO jc;rw[t1,t2];by_cases c:a=768\/a=769\/a=770\/a=771\/a=772\/a=773\/a=774\/a=800\/a=832\/a=833\/a=834\/a=835\/a=836
       . rcases c with b|b|b|b|b|b|b|b|b|b|b|b|b<;>subst b<;>rfl
       . rw[z (by simp;omega)];simp only[show ¬a=768 from by omega,show ¬a=769 from by omega,show ¬a=770 from by omega,show ¬a=771 from by omega,show ¬a=772 from by omega,show ¬a=773 from by omega,show ¬a=774 from by omega,show ¬a=800 from by omega,show ¬a=832 from by omega,show ¬a=833 from by omega,show ¬a=834 from by omega,show ¬a=835 from by omega,show ¬a=836 from by omega,cS];exact Lt
     . unfold aA;rw[z e,z h,z g];unfold eW jO jc;rw[t1,t2];by_cases c:a=3857\/a=3858\/a=3859\/a=3860
       . rcases c with b|b|b|b<;>subst b<;>rfl
       . exact Ls
def xg {e:N}(R:aj e)(g:Nat)(f i:Bool)(a:Int):bD (ax e g f i) e.b a=(aA e a).1:=by
 have b:=sF R g f i;have c:k9 (ax e g f i)=e.c.V5&&&786722:=VJ e.c.V5;have d:fx (ax e g f i)=e.c.V5:=D6 e.c.V5 R.Xx;by_cases h:a=256
 . subst h;simp[bD,aA,bQ,bO,bH,b9,b,c,d];try rfl
 by_cases j:a=260
 . subst j;simp[bD,aA,bQ,bO,bH,b9,b,c,d];try rfl
 by_cases k:a=261
 . subst k;simp[bD,aA,bQ,bO,bH,b9,b,c,d];try rfl
 by_cases l:a=262
 . subst l;simp[bD,aA,bQ,bO,bH,b9,b,c,d];try rfl
 by_cases m:a=320
 . subst m;simp[bD,aA,bQ,bO,bH,b9,b,c,d];try rfl
 by_cases n:a=321
 . subst n;simp[bD,aA,bQ,bO,bH,b9,b,c,d];try rfl
 by_cases o:a=322
 . subst o;simp[bD,aA,bQ,bO,bH,b9,b,c,d];try rfl
 by_cases p:a=323
 . subst p;simp[bD,aA,bQ,bO,bH,b9,b,c,d];try rfl
 by_cases q:a=324
 . subst q;simp[bD,aA,bQ,bO,bH,b9,b,c,d];try rfl
 by_cases r:a=384
 . subst r;simp[bD,aA,bQ,bO,bH,b9,b,c,d];try rfl
 by_cases s:a=768
 . subst s;simp[bD,aA,bQ,bO,bH,b9,b,c,d];try rfl
 by_cases t:a=769
 . subst t;simp[bD,aA,bQ,bO,bH,b9,b,c,d];try rfl
 by_cases u:a=770
 . subst u;simp[bD,aA,bQ,bO,bH,b9,b,c,d];try rfl
 by_cases v:a=771
 . subst v;simp[bD,aA,bQ,bO,bH,b9,b,c,d];try rfl
 by_cases w:a=772
 . subst w;simp[bD,aA,bQ,bO,bH,b9,b,c,d];try rfl
 by_cases x:a=773
 . subst x;simp[bD,aA,bQ,bO,bH,b9,b,c,d];try rfl
 by_cases y:a=774
 . subst y;simp[bD,aA,bQ,bO,bH,b9,b,c,d];try rfl
 by_cases A:a=800
 . subst A;simp[bD,aA,bQ,bO,bH,b9,b,c,d];try rfl
 by_cases B:a=832
 . subst B;simp[bD,aA,bQ,bO,bH,b9,b,c,d];try rfl
 by_cases C:a=833
 . subst C;simp[bD,aA,bQ,bO,bH,b9,b,c,d];try rfl
 by_cases D:a=834
 . subst D;simp[bD,aA,bQ,bO,bH,b9,b,c,d];try rfl
 by_cases E:a=835
 . subst E;simp[bD,aA,bQ,bO,bH,b9,b,c,d];try rfl
 by_cases F:a=836
 . subst F;simp[bD,aA,bQ,bO,bH,b9,b,c,d];try rfl
 by_cases G:a=2816
 . subst G;simp[bD,aA,bQ,bO,bH,b9,b,c,d];try rfl
 by_cases K:a=3072
 . subst K;simp[bD,aA,bQ,bO,bH,b9,b,c,d];try rfl
 by_cases I:a=2944
 . subst I;simp[bD,aA,bQ,bO,bH,b9,b,c,d];try rfl
 by_cases O:a=3200
 . subst O;simp[bD,aA,bQ,bO,bH,b9,b,c,d];try rfl
 by_cases H:a=2818
 . subst H;simp[bD,aA,bQ,bO,bH,b9,b,c,d];try rfl
 by_cases M:a=3074
 . subst M;simp[bD,aA,bQ,bO,bH,b9,b,c,d];try rfl
 by_cases J:a=2946
 . subst J;simp[bD,aA,bQ,bO,bH,b9,b,c,d];try rfl
 by_cases Q:a=3202
 . subst Q;simp[bD,aA,bQ,bO,bH,b9,b,c,d];try rfl
 by_cases L:a=3073
 . subst L;simp[bD,aA,bQ,bO,bH,b9,b,c,d];try rfl
 by_cases P:a=3201
 . subst P;simp[bD,aA,bQ,bO,bH,b9,b,c,d];try rfl
 unfold bD;simp only[h,j,k,l,m,n,o,p,q,r,s,t,u,v,w,x,y,A,B,C,D,E,F,G,K,I,O,H,M,J,Q,L,P,cS];unfold aA;split
 . unfold bQ;simp only[h,j,k,l,m,n,o,p,q,r,cS]
 . split
   . unfold bO;simp only[s,t,u,v,w,x,y,A,B,C,D,E,F,cS]
   . split
     . next S=>
       rw[PK e a.toNat (by omega) (by omega)];rw[z (by omega),z (by omega),z (by omega),z (by omega),z (by omega),z (by omega)]
     . rfl
def dJ (a d c:Nat):gr a d c=dc a d c:=by
 unfold gr dc;refine i6 _ _ (hx fun b=>?_);simp only[dd,et,oT];cases a.testBit b<;>cases d.testBit b<;>cases c.testBit b<;>rfl
def dP (a:Nat):a-a/2%2*2=aI a 2:=by
 unfold aI;rw[show a&&&2=a/2^1%2*2 from dL a 1]
def dO (a:Nat):a-a%2=aI a 1:=by
 unfold aI;rw[show a&&&1=a/2^0%2*1 from dL a 0];simp
def dK (a:Nat):a%8=a&&&7:=by
 rw[show(7:Nat)=2^3-1 from rfl,q6]
def Bi (a:Nat):(a&&&6144=4096)↔a/2048%4=2:=by
 have b:=e2 a 2048 4096 R;have c:a&&&2048=a/2^11%2*2048:=dL a 11;have d:a&&&4096=a/2^12%2*4096:=dL a 12;have e:=jW a;simp only[Nat.reduceOr,Nat.reducePow]at *;omega
def afK (a:N)(d c:Nat)(b i:Bool):iO (ax a c b i) d=ax {a with c:={a.c with V5:=dc a.c.V5 d 786722}} c b i:=by
 unfold iO ax S;exact Lu
def afJ (b:N)(a e:Nat)(d i:Bool):mI (ax b e d i) a=ax {b with c:={b.c with V5:=hw b.c.V5 a}} e d i:=by
 unfold mI hw;by_cases c:a/2048%4=2
 . rw[B c,B ((Bi a).2 c)];unfold qR iO ax S;exact Lu
 . rw[z c,z (fun f=>c ((Bi a).1 f))];unfold qR iO ax S;simp only[Q.mk.injEq,Bt,jW];simp
def afH (b:N)(a:Int)(c e:Nat)(d i:Bool):cf (ax b e d i) a c=ax (bT b a c) e (d ||decide (a=2816\/a=2944)) (i ||decide (a=2818\/a=2946)):=by
 by_cases f:a=256
 . subst f;simp only[cf,bT,eZ];simp;exact afK b c e d i
 by_cases g:a=260
 . subst g;simp only[cf,bT,eZ];simp[dJ,dO,dP,dK,ax,S]
 by_cases h:a=261
 . subst h;simp only[cf,bT,eZ];simp[dJ,dO,dP,dK,ax,S]
 by_cases j:a=262
 . subst j;simp only[cf,bT,eZ];simp[dJ,dO,dP,dK,ax,S]
 by_cases o:a=320
 . subst o;simp only[cf,bT,eZ];simp[dJ,dO,dP,dK,ax,S]
 by_cases p:a=321
 . subst p;simp only[cf,bT,eZ];simp[dJ,dO,dP,dK,ax,S]
 by_cases q:a=322
 . subst q;simp only[cf,bT,eZ];simp[dJ,dO,dP,dK,ax,S]
 by_cases r:a=323
 . subst r;simp only[cf,bT,eZ];simp[dJ,dO,dP,dK,ax,S]
 by_cases s:a=324
 . subst s;simp only[cf,bT,eZ];simp[dJ,dO,dP,dK,ax,S]
 by_cases t:a=384
 . subst t;simp only[cf,bT,eZ];simp[dJ,dO,dP,dK,ax,S]
 by_cases u:a=768
 . subst u;simp only[cf,bT,eu];simp;exact afJ b c e d i
 by_cases v:a=770
 . subst v;simp only[cf,bT,eu];simp[dJ,dO,dP,dK,ax,S]
 by_cases w:a=771
 . subst w;simp only[cf,bT,eu];simp[dJ,dO,dP,dK,ax,S]
 by_cases x:a=772
 . subst x;simp only[cf,bT,eu];simp[dJ,dO,dP,dK,ax,S]
 by_cases y:a=773
 . subst y;simp only[cf,bT,eu];simp[dJ,dO,dP,dK,ax,S]
 by_cases z:a=774
 . subst z;simp only[cf,bT,eu];simp[dJ,dO,dP,dK,ax,S]
 by_cases A:a=800
 . subst A;simp only[cf,bT,eu];simp[dJ,dO,dP,dK,ax,S]
 by_cases B:a=832
 . subst B;simp only[cf,bT,eu];simp[dJ,dO,dP,dK,ax,S]
 by_cases C:a=833
 . subst C;simp only[cf,bT,eu];simp[dJ,dO,dP,dK,ax,S]
 by_cases D:a=834
 . subst D;simp only[cf,bT,eu];simp[dJ,dO,dP,dK,ax,S]
 by_cases E:a=835
 . subst E;simp only[cf,bT,eu];simp[dJ,dO,dP,dK,ax,S]
 by_cases F:a=836
 . subst F;simp only[cf,bT,eu];simp[dJ,dO,dP,dK,ax,S]
 by_cases k:a=2816
 . subst k;simp only[cf,bT,hs];simp[dJ,dO,dP,dK,ax,S]
 by_cases m:a=2944
 . subst m;simp only[cf,bT,hs];simp[dJ,dO,dP,dK,ax,S]
 by_cases l:a=2818
 . subst l;simp only[cf,bT,hs];simp[dJ,dO,dP,dK,ax,S]
 by_cases n:a=2946
 . subst n;simp only[cf,bT,hs];simp[dJ,dO,dP,dK,ax,S]
 unfold cf;simp only[f,g,h,j,o,p,q,r,s,t,u,v,w,x,y,z,A,B,C,D,E,F,k,m,l,n,cS,or_self,ov,oO];have G:bT b a c=b:=by
  unfold bT eZ eu hs;simp only[f,g,h,j,o,p,q,r,s,t,u,v,w,x,y,z,A,B,C,D,E,F,k,m,l,n,cS];repeat' split
  all_goals rfl
 rw[G]
def RW {p:Prop}[Decidable p]{b c d:N}(e:∃a,c={b with c:=a})(f:∃a,d={b with c:=a}):∃a,(if p then c else d)={b with c:=a}:=by split<;>assumption
def RV {p:Prop}[Decidable p]{c a d b:N}(e:c.c=a.c)(f:d.c=b.c):(if p then c else d).c=(if p then a else b).c:=by split<;>assumption
def afl (a:N)(c:Int)(d:Nat):∃b,bT a c d={a with c:=b}:=by
 unfold bT eZ eu hs;repeat' (first|exact⟨_,rfl⟩|refine RW ?_ ?_)
def tA (a:N)(b:Int)(c:Nat):bT a b c={a with c:=(bT a b c).c}:=by
 obtain⟨e,d⟩:=afl a b c;rw[d]
def afn (a:N)(b e:Nat)(d:Int)(f:Nat):(bT (a6 a b e) d f).c=(bT a d f).c:=by
 have c:(a6 a b e).c=a.c:=lM;unfold bT eZ eu hs;rw[c];repeat' (first|exact c|exact rfl|refine RV ?_ ?_)
def Tc {a:N}(w:aj a)(f:Nat)(e i:Bool)(c:ak)(u:0<=c.V2)(v:c.V2<=4095):nU (ax a f e i) c.V2.toNat (cW c)=fg a c:=by
 have x:eW (c.V2.toNat:Int)=(aA a c.V2).2:=by rw[show(c.V2.toNat:Int)=c.V2 from by omega];exact BV a _ u v
 have m:=w.ok.mode;unfold nU fg sN qb;rw[x];have f1:(ax a f e i).mode=a.mode:=rfl;have f2:(ax a f e i).WL=a.c.V5/2^20%2:=rfl;have f3:(ax a f e i).Wp=a.c.Wp:=rfl;have f4:(ax a f e i).WA=a.c.WA:=rfl;rw[f1,f2,f3,f4];have C:c.V2.toNat<=4095:=J;generalize c.V2.toNat=b at *;have q:=Bt a.c.Wp a.c.WA (b%32);have r:=gh (a.c.Wp/2^(b%32));have s:=gh (a.c.WA/2^(b%32));have t:=gh (a.c.V5/2^20);unfold ab;rw[q];generalize a.c.Wp/2^(b%32)%2=p at *;generalize a.c.WA/2^(b%32)%2=D at *;generalize a.c.V5/2^20%2=E at *;cases(aA a c.V2).2
 . rfl
 have z:(b/1024=3)↔b/1024%4=3:=J;simp only[z];by_cases l:a.mode<b/256%4
 . simp[l]
 simp only[l,ov];by_cases k:b/256=12
 . have n:3072<=b:=J;have h:b<=3327:=J;have A:¬b=384:=J;have B:b/1024%4=3:=J;rcases m with d|d|d<;>rcases r with g|g<;>rcases s with o|o<;>cases cW c<;>simp[k,n,h,A,B,d,g,o]
 . have n:¬(3072<=b/\b<=3327):=J;have h:(decide (3072<=b)&&decide (b<=3327))=false:=by rw[<-Bool.decide_and];simp;omega
   simp only[k,h];by_cases j:b=384
   . subst j;rcases m with d|d|d<;>rcases t with g|g<;>simp[d,g]
   . cases cW c<;>by_cases y:b/1024%4=3<;>simp[j,y]
def PG (g:Int)(c d e b:Nat)(h:c&&&b=d&&&b):ev g c e&&&b=ev g d e&&&b:=by
 have f:∀a,(c.testBit a&&b.testBit a)=(d.testBit a&&b.testBit a):=fun a=>by rw[<-dd,<-dd,h]
 unfold ev;split
 . refine hx fun a=>?_;have:=f a;simp only[dd,fF];exact Lv
 . split
   . refine hx fun a=>?_;have:=f a;simp only[dd,et];exact Lv
   . rfl
def Tr (b:N)(d:Nat)(c i:Bool)(a:ak):kG (aD b d c i) a=ev a.op (gt (ax b d c i) b.b a.V2) (di b a):=rfl
def Pp {a:N}(f:aj a)(e:Nat)(d i:Bool):gt (ax a e d i) a.b 836&&&546=a.c.Wo&&&546:=by
 unfold gt;rw[B rfl,sF f];have l:=f.ok.b.Wj;rw[show(ax a e d i).soft=a.c.Wo from rfl];have c:aI (dV a) 512+(a.c.Wo&&&512)=aI (dV a) 512 |||(a.c.Wo&&&512):=by
  refine i6 _ _ (hx fun b=>?_);simp only[dd,et,oT];cases(dV a).testBit b<;>cases a.c.Wo.testBit b<;>cases(512:Nat).testBit b<;>rfl
 rw[c];have j:(fz a.b |||hj a.b)&&&34=0:=by
  unfold fz hj;have c:a.b.Wj=0\/a.b.Wj=1:=J;rcases c with c|c<;>rw[c]<;>cases fP a.b<;>by_cases h:eO a.b=1<;>simp[h]
 refine hx fun b=>?_;have g:((fz a.b |||hj a.b)&&&34).testBit b=false:=by rw[j];simp
 have k:(546:Nat).testBit b=((34:Nat).testBit b ||(512:Nat).testBit b):=by rw[<-fF];rfl
 unfold dV;rw[Nat.or_assoc];simp only[dd,fF,et,k]at g|-;revert g;cases a.c.Wo.testBit b<;>cases(fz a.b).testBit b<;>cases(hj a.b).testBit b<;>cases(34:Nat).testBit b<;>cases(512:Nat).testBit b<;>simp
def ET (a:Q)(b:Nat):cf a 836 b={a with soft:=b&&&546}:=by simp[cf]
def PV {b:N}(e:aj b)(a:ak)(k:0<=a.V2)(l:a.V2<=4095)(j d:Nat)(c i:Bool):
 is (aD b d c i) a j=if fg b a=true then(((de b.V3 a:Int),-1,0),aD (dS b a) d (c ||decide (cW a=true/\(a.V2=2816\/a.V2=2944))) (i ||decide (cW a=true/\(a.V2=2818\/a.V2=2946))))else((0,2,(j:Int)),aD b d c i):=by
 unfold is;rw[show(aD b d c i).f=ax b d c i from rfl,show(aD b d c i).b=b.b from rfl,Tc e d c i a k l];by_cases f:fg b a=true
 . rw[B f,B f];refine rf ?_ ?_
   . refine congrArg (fun p=>(p,(-1:Int),(0:Int))) ?_;exact Ay
   . rw[xg e];have m:=k0 b e.ok a.V2;have h:am ((aA b a.V2).1:Int)=(aA b a.V2).1:=oj _ m;unfold dS;cases r:cW a
     . simp only[ei,cS,oP,ov,oO];exact(qs b d c i a.rd _).trans (by rw[h])
     . simp only[if_true,true_and];rw[Tr];have n:cf (ax b d c i) a.V2 (ev a.op (gt (ax b d c i) b.b a.V2) (di b a))=cf (ax b d c i) a.V2 (ev a.op (if a.V2=836 then b.c.Wo else(aA b a.V2).1) (di b a)):=by
        by_cases g:a.V2=836
        . rw[g,B rfl];rw[ET,ET,PG a.op _ _ (di b a) 546 (Pp e d c i)]
        . rw[z g];unfold gt;rw[z g,xg e]
       rw[n,afH];rw[tA (a6 b a.rd (aA b a.V2).1),afn];generalize ev a.op _ _=o;rw[tA b];generalize (bT b a.V2 o).c=q;unfold dW a6;rw[h];split<;>rfl
 . rw[z f,z f]
end Go.Proofs.YtmlgonbhoknoiaaGreatDoor
