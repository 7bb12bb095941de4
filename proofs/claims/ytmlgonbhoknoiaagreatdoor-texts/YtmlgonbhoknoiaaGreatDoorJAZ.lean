import Derived.Test.YtmlgonbhoknoiaaGreatDoorJAS
import Derived.Test.YtmlgonbhoknoiaaGreatDoorJAX
set_option maxHeartbeats 8000000
set_option maxRecDepth 100000
set_option linter.all false
namespace Go.Proofs.YtmlgonbhoknoiaaGreatDoor
open Go.RowKit Go.Proofs.Tryz
section
attribute [local go_sem ↓] Go.wp_at_zero Go.wp_at_succ
def O8 (a:Nat):(a&&&256)/256=a/256%2:=by
 have b:=fL a 8;rw[show(2:Nat)^8=256 from rfl]at b;rw[b];have c:ab a 8=decide (a/256%2=1):=rfl;rw[c];rcases gh (a/256)with b|b<;>rw[b]<;>rfl
def mo (a:N):N:=hr {a with mode:=a.c.V5/2048%4,c:={a.c with V5:=h2 a.c.V5}}
def mA (a:N):N:=hr {a with mode:=a.c.V5/256%2,c:={a.c with V5:=hv a.c.V5}}
def fT (a:N)(b:Int):N:=if b=67 then mo a else if b=68 then mA a else if b=69 then{a with waits:=true}else a
def ahP (h q e)(k:af e)(g:Int)(w)(a:Hid (E w h q e)):
 an 206 #[I h,j g] (.tuple #[]) [h] h q (fT e g) w:=by
 have D:=a.out.Xl;have G:=a.out.Xq;have H:=a.out.Xm;have J:=a.out.Wb;have v:=k.V5;unfold fT;by_cases d:g=67
 . subst d;rw[B rfl];unfold mo;have p:bits .and .i64 (e.c.V5:Int) 6144=((e.c.V5&&&6144:Nat):Int):=bm e.c.V5 6144 m m;have u:bits .and .i64 (e.c.V5:Int) 6144/2048=((e.c.V5/2048%4:Nat):Int):=by rw[p,<-v5];simp
   have i:=l (ahf e.c.V5 v);obtain⟨r,o⟩:=y (h2 e.c.V5);simp only[<-o]at i|-;obtain⟨s,n⟩:=y (e.c.V5/2048%4);rw[<-n]at u|-;have x:=l (fun W t=>qV h q {e with mode:=s,c:={e.c with V5:=r}} W t);clear o n k p;go_enter func206,ntmps206;go_wp2_with(go_at_call 283;refine(i.out _).mono ?_;rintro A C ⟨rfl,rfl⟩);exact Kt
 rw[z d];have K:(g==67)=false:=iZ;by_cases c:g=68
 . subst c;rw[B rfl];unfold mA;have p:bits .and .i64 (e.c.V5:Int) 256=((e.c.V5&&&256:Nat):Int):=bm e.c.V5 256 m m;have u:bits .and .i64 (e.c.V5:Int) 256/256=((e.c.V5/256%2:Nat):Int):=by rw[p,<-O8];simp
   have i:=l (aiV e.c.V5 v);obtain⟨r,o⟩:=y (hv e.c.V5);simp only[<-o]at i|-;obtain⟨s,n⟩:=y (e.c.V5/256%2);rw[<-n]at u|-;have x:=l (fun W t=>qV h q {e with mode:=s,c:={e.c with V5:=r}} W t);clear o n k p d;go_enter func206,ntmps206;go_wp2_with(go_at_call 284;refine(i.out _).mono ?_;rintro A C ⟨rfl,rfl⟩);exact Kt
 rw[z c];have L:(g==68)=false:=eT;by_cases f:g=69
 . subst f;rw[B rfl];clear k d c;go_enter func206,ntmps206;go_wp2_with fail;go_end0;exact⟨rfl,a.out.set 35 _ rfl rfl m,(Kept.refl _ _).setCell (.inl F) _⟩
 rw[z f];have M:(g==69)=false:=lS;clear k d c f;go_enter func206,ntmps206;exact vl
def iL (a:N)(b c:Nat):N:={a with mode:=1,V3:=gb a.c.WH b,c:={a.c with Wu:=a.V3,WD:=b,WI:=c,V5:=h3 a.c.V5 a.mode}}
def iK (a:N)(b c:Nat):N:={a with mode:=3,V3:=gb a.c.Wz b,c:={a.c with Wm:=a.V3,Wx:=b,WB:=c,V5:=jp a.c.V5 a.mode}}
def FB (c h a)(f:af a)(b e:Nat)(t:G b)(i)(d:Hid (E i c h a)):
 an 130 #[I c,j b,j e] (.tuple #[]) [c] c h (iL a b e) i:=by
 have v:=d.out.Xk;have w:=d.out.Xl;have x:=d.out.Xm;have C:=d.out.Y7;have z:=d.out.YM;have A:=d.out.Y9;have B:=d.out.Za;have D:=d.out.Wb;have o:=f.V5;have u:=f.mode;have q:=f.WH;have ST:=l (aiW a.c.V5 a.mode o);have g:=l (Fo a.c.WH b q t);unfold iL;obtain⟨r,n⟩:=y (h3 a.c.V5 a.mode);simp only[<-n]at ST|-;obtain⟨p,k⟩:=y (gb a.c.WH b);simp only[<-k]at g|-;have s:Hid (E ((((((i.setCell ⟨c,53,none⟩ (j a.V3)).setCell ⟨c,54,none⟩ (j b)).setCell ⟨c,55,none⟩ (j e)).setCell ⟨c,38,none⟩ (j r)).setCell ⟨c,34,none⟩ (j 1)).setCell ⟨c,33,none⟩ (j p)) c h {a with mode:=1,V3:=p,c:={a.c with Wu:=a.V3,WD:=b,WI:=e,V5:=r}}):=l ((((((d.out.set (X':={a with c:={a.c with Wu:=a.V3}}) 53 _ rfl rfl m).set (X':={a with c:={a.c with Wu:=a.V3,WD:=b}}) 54 _ rfl rfl m).set (X':={a with c:={a.c with Wu:=a.V3,WD:=b,WI:=e}}) 55 _ rfl rfl m).set (X':={a with c:={a.c with Wu:=a.V3,WD:=b,WI:=e,V5:=r}}) 38 _ rfl rfl m).set (X':={a with mode:=1,c:={a.c with Wu:=a.V3,WD:=b,WI:=e,V5:=r}}) 34 _ rfl rfl m).set 33 _ rfl rfl m);clear n k f u q o;go_enter func130,ntmps130;go_upto_region 3 with fail;go_region_with(go_at_call 189;refine(ST.out _).mono ?_;rintro F H ⟨rfl,rfl⟩);all_goals
  exact M9
def FA (c h a)(f:af a)(b e:Nat)(t:G b)(i)(d:Hid (E i c h a)):
 an 131 #[I c,j b,j e] (.tuple #[]) [c] c h (iK a b e) i:=by
 have w:=d.out.Xk;have x:=d.out.Xl;have z:=d.out.Xm;have D:=d.out.Y2;have A:=d.out.YL;have B:=d.out.Y5;have C:=d.out.Y6;have F:=d.out.Wb;have o:=f.V5;have v:=f.mode;have u:a.mode<4:=J;have q:=f.Wz;have ST:=l (ahg a.c.V5 a.mode o u);have g:=l (Fo a.c.Wz b q t);unfold iK;obtain⟨r,n⟩:=y (jp a.c.V5 a.mode);simp only[<-n]at ST|-;obtain⟨p,k⟩:=y (gb a.c.Wz b);simp only[<-k]at g|-;have s:Hid (E ((((((i.setCell ⟨c,47,none⟩ (j a.V3)).setCell ⟨c,48,none⟩ (j b)).setCell ⟨c,49,none⟩ (j e)).setCell ⟨c,38,none⟩ (j r)).setCell ⟨c,34,none⟩ (j 3)).setCell ⟨c,33,none⟩ (j p)) c h {a with mode:=3,V3:=p,c:={a.c with Wm:=a.V3,Wx:=b,WB:=e,V5:=r}}):=l ((((((d.out.set (X':={a with c:={a.c with Wm:=a.V3}}) 47 _ rfl rfl m).set (X':={a with c:={a.c with Wm:=a.V3,Wx:=b}}) 48 _ rfl rfl m).set (X':={a with c:={a.c with Wm:=a.V3,Wx:=b,WB:=e}}) 49 _ rfl rfl m).set (X':={a with c:={a.c with Wm:=a.V3,Wx:=b,WB:=e,V5:=r}}) 38 _ rfl rfl m).set (X':={a with mode:=3,c:={a.c with Wm:=a.V3,Wx:=b,WB:=e,V5:=r}}) 34 _ rfl rfl m).set 33 _ rfl rfl m);clear n k f v q o;go_enter func131,ntmps131;go_upto_region 3 with fail;go_region_with(go_at_call 191;refine(ST.out _).mono ?_;rintro H K ⟨rfl,rfl⟩);all_goals
  exact M9
def iJ (a:N)(b:Nat):N:=if gv a a.c.V9 b=true then iL a (b+2147483648) 0 else iK a (b+2147483648) 0
def Fz (c d a)(e:af a)(b:Nat)(C:b<32)(p)(f:Hid (E p c d a)):
 an 81 #[I c,j b] (.tuple #[]) [c] c d (iJ a b) p:=by
 have B:=f.out.YB;have g:=l (Fk c d a a.c.V9 b e.V9 p f);have i:=l (FB c d a e (b+2147483648) 0 m);have h:=l (FA c d a e (b+2147483648) 0 m);have r:((b+2147483648:Nat):Int)=(b:Int)+2147483648:=J;have q:((0:Nat):Int)=0:=rfl;rw[r,q]at i h;unfold iJ;obtain⟨v,u⟩:=y (gv a a.c.V9 b);rw[<-u]at g|-;obtain⟨A,t⟩:=y (iL a (b+2147483648) 0);obtain⟨z,s⟩:=y (iK a (b+2147483648) 0);rw[<-t]at i|-;rw[<-s]at h|-;clear u t s r q e;cases v
 . go_enter func81,ntmps81;go_wp2_with(first|(go_at_call 129;refine g.out.mono ?_;rintro o w ⟨rfl,rfl⟩)|(go_at_call 131;refine(h.out _ f).mono ?_;rintro o x ⟨rfl,n,k⟩));go_end0;exact⟨rfl,n,k⟩
 . go_enter func81,ntmps81;go_wp2_with(first|(go_at_call 129;refine g.out.mono ?_;rintro o w ⟨rfl,rfl⟩)|(go_at_call 130;refine(i.out _ f).mono ?_;rintro o x ⟨rfl,n,k⟩));refine ac (q8 rfl _ _ _) rfl ?_;exact⟨rfl,n,k⟩
def iH (a:N)(b c:Nat):N:=if gv a a.c.WG b=true then iL a b c else iK a b c
def Fy (c e a)(f:af a)(b d:Nat)(C:b<32)(n)(i:Hid (E n c e a)):
 an 84 #[I c,.agg #[j b,j d]] (.tuple #[]) [c] c e (iH a b d) n:=by
 have B:=i.out.Y1;have D:=i.out.lt;have g:Hid (E (n.alloc (.cells #[j b,j d] 118)) c e a):=l (i.out.kept ((Kept.refl _ _).alloc _));have h:=l (Fk c e a a.c.WG b f.WG);have p:=l (FB c e a f b d m);have o:=l (FA c e a f b d m);unfold iH;obtain⟨v,s⟩:=y (gv a a.c.WG b);rw[<-s]at h|-;obtain⟨A,r⟩:=y (iL a b d);obtain⟨z,q⟩:=y (iK a b d);rw[<-r]at p|-;rw[<-q]at o|-;clear s r q f;cases v
 . go_enter func84,ntmps84;go_upto_region 1 with fail;go_quiet ((go_at_call 129;exact br (h.out _ (l (g.out.kept ((Kept.refl [] _).drewN _))))));go_upto_region 3 with fail;have k:=l (g.out.kept ((Kept.refl [] _).drewN nq));go_wp2_with(go_at_call 131;refine(o.out _ k).mono ?_;rintro w x ⟨rfl,u,t⟩);go_end0;exact Ku
 . go_enter func84,ntmps84;go_upto_region 1 with fail;go_quiet ((go_at_call 129;exact br (h.out _ (l (g.out.kept ((Kept.refl [] _).drewN _))))));go_upto_region 2 with fail;have k:=l (g.out.kept ((Kept.refl [] _).drewN nq));go_wp2_with(go_at_call 130;refine(p.out _ k).mono ?_;rintro w x ⟨rfl,u,t⟩);refine ac (q8 rfl _ _ _) rfl ?_;exact Ku
def sN (t0 t1 t2 t3 t4 t5 v1 t6 t7 v2:Bool):Bool:=if t0=false then false else if t1=true then false else if(t2&&t3)=true then false else if(t4&&t5)=true then v1 else if(t6&&t7)=true then v2 else true
def fg (a:N)(i:ak):Bool:=sN (aA a i.V2).2 (decide (a.mode<i.V2.toNat/256%4)) (decide (i.V2.toNat/1024%4=3)) (cW i) (decide (i.V2.toNat=384)) (decide (a.mode=1)) (!ab a.c.V5 20) (decide (3072<=i.V2.toNat)) (decide (i.V2.toNat<=3327)) (qb a i.V2.toNat)
def Bh (a:Nat):a&&&3=a%4:=q6 a 2
def UL (c:N)(b:Int)(a:(aA c b).2=true):0<=b/\b<=3860:=by
 unfold aA at a;split at a
 . omega
 . split at a
   . omega
   . split at a
     . omega
     . have:=of_decide_eq_true a;omega
def ahi (c f b)(k:af b)(i:ak)(e:(aA b i.V2).2=false)(g)(a:Hid (E g c f b)):
 aE 203 #[I c,ag i] (.bool false) g:=by
 have t:=a.out.lt;have p:=a.out.Xl;have m:Hid (E (g.alloc (az i)) c f b):=b7;have d:=l (fun W n=>j4 c f b k i.V2 W n);have h:=l (fun W=>j5 i W);obtain⟨⟨s,q⟩,j⟩:∃r,r=aA b i.V2:=⟨_,rfl⟩;simp only[<-j]at d e;try dsimp only at d e
 subst e;unfold az at m h;unfold ag at h|-;obtain⟨x,y,z,A,u,v⟩:=i;dsimp only at *;clear k j;go_enter func203,ntmps203;go_wp2_with(go_at_call 246;refine(d.out _ m).mono ?_;rintro w B ⟨rfl,o⟩);go_ret;exact⟨rfl,Kept.trans ((Kept.refl _ _).alloc _) o⟩
def ahj (h p d)(n:af d)(i:ak)(k:(aA d i.V2).2=true)(j)(a:Hid (E j h p d)):
 aE 203 #[I h,ag i] (.bool (fg d i)) j:=by
 have am:=a.out.lt;have Q:=a.out.Xl;have A:Hid (E (j.alloc (az i)) h p d):=b7;have v:=l (fun W e=>j4 h p d n i.V2 W e);have s:=l (fun W=>j5 i W);obtain⟨R,S⟩:=UL d i.V2 k;unfold fg;obtain⟨⟨aj,ai⟩,D⟩:∃r,r=aA d i.V2:=⟨_,rfl⟩;simp only[<-D]at v k|-;try dsimp only at v k|-
 subst k;obtain⟨t3,G⟩:=y (cW i);simp only[<-G]at s|-;unfold az at A s;unfold ag at s|-;obtain⟨V,aa,ac,ad,N,U⟩:=i;dsimp only at *;obtain⟨c,rfl⟩:∃c:Nat,N=c:=⟨N.toNat,by omega⟩;have C:(c:Int).toNat=c:=J;rw[C];have P:=l (fun W e=>ahk h p d n c W e);have T:=n.V5;have ah:=a.out.Xm;have X:bits .and .i64 ((c:Int)/256) 3=((c/256%4:Nat):Int):=by
  have:=bm (c/256) 3 m m;rw[Bh]at this;rw[<-this];simp
 have Y:bits .and .i64 ((c:Int)/1024) 3=((c/1024%4:Nat):Int):=by
  have:=bm (c/1024) 3 m m;rw[Bh]at this;rw[<-this];simp
 have Z:(bits .and .i64 (d.c.V5:Int) 1048576==0)=!ab d.c.V5 20:=by
  rw[show(1048576:Int)=((1048576:Nat):Int)from rfl,bm d.c.V5 1048576 (by omega) (by omega),eV];exact dj d.c.V5 20
 obtain⟨v1,L⟩:=y (!ab d.c.V5 20);rw[<-L]at Z|-;obtain⟨v2,M⟩:=y (qb d c);simp only[<-M]at P|-;obtain⟨f,F⟩:=y (d.mode);rw[<-F]at Q|-;obtain⟨q,H⟩:=y (c/256%4);rw[<-H]at X|-;obtain⟨B,K⟩:=y (c/1024%4);rw[<-K]at Y|-;obtain⟨t1,g⟩:=y (decide (f<q));obtain⟨t2,w⟩:=y (decide (B=3));obtain⟨t4,x⟩:=y (decide (c=384));obtain⟨t5,z⟩:=y (decide (f=1));obtain⟨t6,u⟩:=y (decide (3072<=c));obtain⟨t7,o⟩:=y (decide (c<=3327));rw[<-g,<-w,<-x,<-z,<-u,<-o];have aJ:decide ((q:Int)> (f:Int))=t1:=by rw[g];simp
 have aL:decide ((f:Int)< (q:Int))=t1:=by rw[g];simp
 have aM:decide (f<q)=t1:=g.symm;have aN:((B:Int)==3)=t2:=by rw[w];by_cases e:B=3<;>simp[e]<;>omega
 have aO:((c:Int)==384)=t4:=by rw[x];by_cases e:c=384<;>simp[e]<;>omega
 have aP:((f:Int)==1)=t5:=by rw[z];by_cases e:f=1<;>simp[e]<;>omega
 have aQ:decide ((c:Int)>=3072)=t6:=Hd;have aS:decide (3072<=(c:Int))=t6:=Hd;have aT:decide (3072<=c)=t6:=u.symm;have aU:decide ((c:Int)<=3327)=t7:=by rw[o];by_cases e:c<=3327<;>simp[e]<;>omega
 have aV:decide (c<=3327)=t7:=o.symm;clear n D L M F H K g w G x z u o C R S T;go_enter func203,ntmps203;go_upto_region 4 with(go_at_call 246;refine(v.out _ A).mono ?_;rintro aI O ⟨rfl,b⟩);have t:=l (A.out.kept b);have d38:=t.out.Xm;have al:=t.out.lt;obtain⟨an,ao,ap,aq,ar,au,av,aC,aD,aw,aF,ax,aG,ay,aH,aB⟩:a8 O j.heap.size V aa ac ad (c:Nat) U:=iX;have ae:Hid (Kept [] j O):=l (Kept.trans ((Kept.refl _ _).alloc _) b);clear b;cases t1;rotate_left
 . exact pE
 cases t2
 . exact Kz
 . cases t3;rotate_left
   . exact pE
   exact Kz
def Fq (b e a)(f:af a)(i:ak)(c)(g:Hid (E c b e a)):
 aE 203 #[I b,ag i] (.bool (fg a i)) c:=by
 cases d:(aA a i.V2).2
 . have h:fg a i=false:=by unfold fg sN;rw[B d]
   rw[h];exact ahi b e a f i d c g
 . exact ahj b e a f i d c g
end
def hL (W a:Nat):Option U:=if cA (aX.word a) W=true then some (eJ (aX.word a) W)else none
def hK (W a:Nat):Option U:=if cA (aX.half a) W=true then some (eJ (aX.half a) W)else none
def cF (a:Int):U×Int:=
 if a<0\/4294967295<a then(aF,2)else
 if a%4=3 then((scan (hL a.toNat) 1 70).getD ⟨0,0,0,0,0,4⟩,0)else
 if 65535<a then(aF,2)else((scan (hK a.toNat) 1 26).getD ⟨0,0,0,0,0,2⟩,0)
def tc (a:aX.Row):Bool:=decide (a.Wi.size<=32)&&a.Wi.data.toList.all (fun b=>decide (b.toNat<=122))&&decide (a.no.size<=32)
def EY :((List.range 71).all fun a=>tc (aX.word a))=true:=by decide+kernel
def QO :((List.range 27).all fun a=>tc (aX.half a))=true:=by decide+kernel
def xm {b:aX.Row}(a:tc b=true):b.Wi.size<=32/\(∀c∈b.Wi.data.toList,c.toNat<=122)/\b.no.size<=32:=by
 simp only[tc,cX,cC,cj]at a;exact⟨a.1.1,a.1.2,a.2⟩
def Vc {W a:Nat}{e b:Option U}(d:cA (aX.word a) W=true)(c:Hid ((match hL W a with|some i=>some i|none=>e)=b)):b=some (eJ (aX.word a) W):=by
 rw[<-c.out,hL,B d]
def Vd {W c:Nat}{b a:Option U}(e:cA (aX.word c) W=false)(d:Hid ((match hL W c with|some i=>some i|none=>b)=a)):Hid (b=a):=by
 show b=a;rw[<-d.out,hL,z (by rw[e];decide)]
def Va {W a:Nat}{e b:Option U}(d:cA (aX.half a) W=true)(c:Hid ((match hK W a with|some i=>some i|none=>e)=b)):b=some (eJ (aX.half a) W):=by
 rw[<-c.out,hK,B d]
def Vb {W c:Nat}{b a:Option U}(e:cA (aX.half c) W=false)(d:Hid ((match hK W c with|some i=>some i|none=>b)=a)):Hid (b=a):=by
 show b=a;rw[<-d.out,hK,z (by rw[e];decide)]
def C0 (a:Int)(b:a<0\/4294967295<a\/(0<=a/\a<=4294967295/\Hid (¬a%4=3)/\65535<a))(d:D):
 aa 88 #[j a] (.tuple #[aW aF,j 2]) d:=by
 unfold aW aF;rcases b with b|b|⟨f,g,c,h⟩
 . exact Ar
 . have e:¬a<0:=J;exact Ar
 . have i:(a%4==3)=false:=by rw[b5];exact c.out
   exact Ar
def Uc (W:Nat)(B:Hid (W%4=3))(I:G W)(n:D):
 Calls prog 88 #[j W] n fun q x=>(∃i,q=.returned (.tuple #[aW i,j 0])/\Hid (i=(scan (hL W) 1 70).getD ⟨0,0,0,0,0,4⟩))/\Below n.heap.size n x:=by
 have H:((W:Int)%4==3)=true:=by have:=B.out;rw[bb];omega
 go_enter func88,ntmps88;go_wp2_with fail;go_loopw [4] (fun s wr=>∃b:Nat,1<=b/\b<=71/\s=j b/\hI n wr/\Hid (scan (hL W) b (71-b)=scan (hL W) 1 70)) (fun s _=>71- (intOf s).toNat);case atStart=>exact zZ
 case round=>
  obtain⟨b,K,L,rfl,a,c⟩:=hrel;by_cases M:b<=70
  . obtain⟨C,w,E⟩:=xm (cj.1 EY b ad);have z:=cG w;clear w;have r:=k4 (hL W) b (70-b);rw[show 70-b+1=71-b by omega]at r;rw[r]at c;clear r;go_wp2_with fail;refine(xd b m m _).mono ?_;rintro q N ⟨rfl,t⟩;replace a:=a.more t;clear t;simp only[dy];go_wp2_with fail;refine(C4 (aX.word b) C z.out E W m _).mono ?_;rintro q O ⟨rfl,u⟩;replace a:=(a.alloc _).more u;clear u;obtain⟨-,p,e,f,g,h,k,l,F⟩:=id a;cases v:cA (aX.word b) W
    . have d:=Vd v c;clear c;simp only[aW,aF];go_wp2;go_roundw;case rel=>exact⟨b+1,by omega,by omega,by go_num,a.alloc _,by rw[show 71- (b+1)=70-b by omega];exact d⟩
      case measure=>exact a5
    . have d:=cG (Vc v c);clear c;obtain⟨i,o⟩:=y (eJ (aX.word b) W);exact K7
  . have A:71-b=0:=J;rw[A]at c;obtain⟨-,p,e,f,g,h,k,l,F⟩:=id a;go_wp2;refine ac (v:=.tuple #[.agg #[j 0,j 0,j 0,j 0,j 0,j 4],j 0]) Gc rfl ⟨⟨⟨0,0,0,0,0,4⟩,rfl,?_⟩,?_⟩
    . rw[<-c.out];rfl
    . exact zY
def Ub (W:Nat)(B:Hid (¬W%4=3))(H:W<=65535)(n:D):
 Calls prog 88 #[j W] n fun q x=>(∃i,q=.returned (.tuple #[aW i,j 0])/\Hid (i=(scan (hK W) 1 26).getD ⟨0,0,0,0,0,2⟩))/\Below n.heap.size n x:=by
 have G:((W:Int)%4==3)=false:=by have:=B.out;rw[b5];omega
 go_enter func88,ntmps88;go_wp2_with fail;go_loopw [8] (fun s wr=>∃b:Nat,1<=b/\b<=27/\s=j b/\hI n wr/\Hid (scan (hK W) b (27-b)=scan (hK W) 1 26)) (fun s _=>27- (intOf s).toNat);case atStart=>exact zZ
 case round=>
  obtain⟨b,I,K,rfl,a,c⟩:=hrel;by_cases L:b<=26
  . obtain⟨C,w,E⟩:=xm (cj.1 QO b ad);have z:=cG w;clear w;have r:=k4 (hK W) b (26-b);rw[show 26-b+1=27-b by omega]at r;rw[r]at c;clear r;go_wp2_with fail;refine(Ur b m m _).mono ?_;rintro q M ⟨rfl,t⟩;replace a:=a.more t;clear t;simp only[dy];go_wp2_with fail;refine(C4 (aX.half b) C z.out E W m _).mono ?_;rintro q N ⟨rfl,u⟩;replace a:=(a.alloc _).more u;clear u;obtain⟨-,p,e,f,g,h,k,l,F⟩:=id a;cases v:cA (aX.half b) W
    . have d:=Vb v c;clear c;simp only[aW,aF];go_wp2;go_roundw;case rel=>exact⟨b+1,by omega,by omega,by go_num,a.alloc _,by rw[show 27- (b+1)=26-b by omega];exact d⟩
      case measure=>exact a5
    . have d:=cG (Va v c);clear c;obtain⟨i,o⟩:=y (eJ (aX.half b) W);exact K7
  . have A:27-b=0:=J;rw[A]at c;obtain⟨-,p,e,f,g,h,k,l,F⟩:=id a;go_wp2;refine ac (v:=.tuple #[.agg #[j 0,j 0,j 0,j 0,j 0,j 2],j 0]) Gc rfl ⟨⟨⟨0,0,0,0,0,2⟩,rfl,?_⟩,?_⟩
    . rw[<-c.out];rfl
    . exact zY
def ql (a:Int)(d:D):
 aa 88 #[j a] (.tuple #[aW (cF a).1,j (cF a).2]) d:=by
 by_cases c:a<0\/4294967295<a
 . have b:cF a=(aF,2):=by unfold cF;rw[B c]
   rw[b];exact C0 a (by rcases c with f|f;exact .inl f;exact .inr (.inl f)) d
 obtain⟨W,rfl⟩:=h6 (show 0<=a by omega);by_cases e:(W:Int)%4=3
 . refine(Uc W (show W%4=3 by omega) m d).mono ?_;rintro b n ⟨⟨i,rfl,l⟩,k⟩;have h:cF (W:Int)=(i,0):=by unfold cF;rw[z c,B e,ds,<-l.out]
   rw[h];exact⟨rfl,k⟩
 by_cases g:65535< (W:Int)
 . have b:cF (W:Int)=(aF,2):=by unfold cF;rw[z c,z e,B g]
   rw[b];exact C0 W (.inr (.inr ⟨by omega,by omega,e,g⟩)) d
 . refine(Ub W (show ¬W%4=3 by omega) m d).mono ?_;rintro b n ⟨⟨i,rfl,l⟩,k⟩;have h:cF (W:Int)=(i,0):=by unfold cF;rw[z c,z e,z g,ds,<-l.out]
   rw[h];exact⟨rfl,k⟩
theorem val_zero (a:L):∀(b:List L) (e:Nat),C.ao (· ==a) b=0->C.val (· ==a) b e=0
 |[],_,_=>rfl
 |f::b,e,c=>by
  cases d:(f==a)
  . simp only[C.ao,d,bi]at c;simp only[C.val,d,bi];exact val_zero a b _ c
  . simp only[C.ao,d,cv]at c;omega
theorem tz (c d:L):∀(b:List L) (f:Nat),C.ao (· ==d) b=0->C.val (fun a=>a==c ||a==d) b f=C.val (· ==c) b f/\C.ao (fun a=>a==c ||a==d) b=C.ao (· ==c) b
 |[],_,_=>⟨rfl,rfl⟩
 |a::b,f,g=>by
  cases e:(a==d)
  . simp only[C.ao,e,bi]at g
    obtain⟨h,i⟩:=tz c d b (f/2) g
    cases j:(a==c)
    . simp only[C.val,C.ao,e,j,oO,bi];exact⟨h,i⟩
    . simp only[C.val,C.ao,e,j,oO,cv];rw[h,i];exact⟨rfl,rfl⟩
  . simp only[C.ao,e,cv]at g;omega
def TV (b c:L)(d:List L)(e:Nat):C.val (fun a=>a==b ||a==c) d e=C.val (fun a=>a==c ||a==b) d e/\C.ao (fun a=>a==b ||a==c) d=C.ao (fun a=>a==c ||a==b) d:=by
 have f:(fun a:L=>a==b ||a==c)=(fun a=>a==c ||a==b):=by funext a;rw[Bool.or_comm]
 rw[f];exact⟨rfl,rfl⟩
def s7 (b:L)(a:List L)(c e:Int):Bool:=
 (C.ao (· ==b) a==0 ||C.ao (· ==66) a==0)&& (if C.ao (fun d=>d==b ||d==66) a=0 then c==e else c==0)
def Dj (d:L)(f:K)(W:Nat)(m k:Int)(l:s7 d (C.ah f.data.toList f.size) m k=true):
 (aM f d W:Int)+aM f 66 W+m=dn (fun n=>n==d ||n==66) f W k:=by
 simp only[s7,cX,cR,bb]at l;obtain⟨e,a⟩:=l;unfold aM dn;simp only;generalize C.ah f.data.toList f.size=c at *;rcases e with e|e
 . have i:=val_zero d c W e;obtain⟨h,g⟩:=tz 66 d c W e;obtain⟨o,j⟩:=TV d 66 c W;rw[j,g]at a;rw[o,j,h,g,e,i];by_cases b:C.ao (· ==66) c=0
   . rw[B b]at a;rw[bb]at a;have:=val_zero 66 c W b;simp[b,this,a]
   . rw[z b]at a;rw[bb]at a;by_cases c3:C.ao (· ==66) c=3<;>simp[c3,b,a]
 . have i:=val_zero 66 c W e;obtain⟨h,g⟩:=tz d 66 c W e;rw[g]at a;rw[h,g,e,i];by_cases b:C.ao (· ==d) c=0
   . rw[B b]at a;rw[bb]at a;have:=val_zero d c W b;simp[b,this,a]
   . rw[z b]at a;rw[bb]at a;by_cases c3:C.ao (· ==d) c=3<;>simp[c3,b,a]
def UW (a:K)(W:Nat):(aM a 84 W:Int)=dn (fun d=>d==84) a W 0:=by
 unfold aM dn;simp only;generalize C.ah a.data.toList a.size=c at *;by_cases b:C.ao (· ==84) c=0
 . have:=val_zero 84 c W b;simp[b,this]
 . by_cases c3:C.ao (· ==84) c=3<;>simp[c3,b]
theorem D9 (g:Nat):∀(b:List L) (c:Nat),(∀a∈b,a.toNat<=122)->e6 false g b c=(C.sum b c:Int)
 |[],_,_=>rfl
 |a::b,c,f=>by
  have i:=D9 g b (c/2) (fun j h=>f j (by simp[h]))
  have k:=f a (by simp)
  simp only[e6,C.sum,i,ei,oP,cS]
  by_cases e:97<=a.toNat
  . have d:C.isLet a=true:=by simp[C.isLet];omega
    rw[B e,d,cv];omega
  . have d:C.isLet a=false:=by simp[C.isLet];omega
    rw[z e,d,bi];omega
theorem Ea (b:L)(i:C.isLet b=true):∀(c:List L) (d:Nat),(∀a∈c,a.toNat<=122)->e6 true b.toNat c d=C.mC b c d
 |[],_,_=>rfl
 |a::c,d,g=>by
  have k:=Ea b i c (d/2) (fun l j=>g l (by simp[j]))
  have m:=g a (by simp)
  have h:a.toNat=b.toNat↔a=b:=oy
  simp only[e6,C.mC,k,true_and,h]
  by_cases f:97<=a.toNat
  . have e:C.isLet a=true:=by simp[C.isLet];omega
    rw[B f,B e]
  . have e:¬C.isLet a=true:=by simp[C.isLet];omega
    rw[z f,z e]
def wG (a:List L)(b:Bool):Bool:=
 a.all (fun c=>decide (c.toNat<=122))&&C.apart a&& (!b ||(C.isLet (UInt8.ofNat (gI a))&&decide ((UInt8.ofNat (gI a)).toNat=gI a)&&decide (C.high a=2^(gI a-97))&&decide (C.qa (UInt8.ofNat (gI a)) a<2^(gI a-97))))
theorem RF (b:K)(c:Bool)(W:Nat)(g:wG (C.ah b.data.toList b.size) c=true):da b c W=jT b c W:=by
 unfold da jT;generalize C.ah b.data.toList b.size=e at *;simp only[wG,cX,cR,cj,cC,ox]at g;obtain⟨⟨h,i⟩,a⟩:=g;cases c with
 |false=>rw[D9 _ _ _ h,C.RJ]
 |true=>
  rcases a with a|⟨⟨⟨a,d⟩,j⟩,k⟩
  . cases a
  . have f:=Ea (UInt8.ofNat (gI e)) a e W h;rw[d]at f;rw[f];exact C.RM e _ W i a (by rw[d];exact j) (by rw[d];exact k)
theorem Bm (c:U):∀b:List L,b.any (dR c)=((c.V2==0&&b.contains 105) ||(c.rd==0&&b.contains 100) ||(c.V1==0&&b.contains 115) ||(c.V6==0&&b.contains 116) ||(c.rd==2&&b.contains 50))
 |[]=>by simp
 |a::b=>by
  rw[yy,Bm c b]
  simp only[List.contains_cons,dR]
  have i:((105:L)==a)=(a==105):=by rw[dZ,bb,bb];exact⟨jx,jx⟩
  have j:((100:L)==a)=(a==100):=by rw[dZ,bb,bb];exact⟨jx,jx⟩
  have k:((115:L)==a)=(a==115):=by rw[dZ,bb,bb];exact⟨jx,jx⟩
  have l:((116:L)==a)=(a==116):=by rw[dZ,bb,bb];exact⟨jx,jx⟩
  have m:((50:L)==a)=(a==50):=by rw[dZ,bb,bb];exact⟨jx,jx⟩
  rw[i,j,k,l,m]
  generalize (a==105)=d,(a==100)=e,(a==115)=f,(a==116)=g,(a==50)=h,b.contains 105=n,b.contains 100=o,b.contains 115=p,b.contains 116=q,b.contains 50=r,(c.V2==0)=d1,(c.rd==0)=d2,(c.V1==0)=d3,(c.V6==0)=d4,(c.rd==2)=d5
  rw[re d,re e,re f,re g,re h]
  simp only[Bool.and_or_distrib_left]
  ac_rfl
def l7 (b:Int×K×Int)(a:aX.Row)(bits:Nat):Bool:=
 b.1==a.op&&b.2.1.data.toList==a.Wi.data.toList&&decide (a.Wi.size=bits)&& (hasB b.2.2 1==a.Xw)&&
 s7 68 (C.ah a.Wi.data.toList a.Wi.size) (dB b.2.2) a.rd&&s7 83 (C.ah a.Wi.data.toList a.Wi.size) (dC b.2.2) a.V1&&wG (C.ah a.Wi.data.toList a.Wi.size) a.Xw&&
 (hasB b.2.2 16==a.no.data.toList.contains 105)&& (hasB b.2.2 32==a.no.data.toList.contains 100)&& (hasB b.2.2 64==a.no.data.toList.contains 115)&& (hasB b.2.2 128==a.no.data.toList.contains 116)&& (hasB b.2.2 256==a.no.data.toList.contains 50)
def xn {b:Int×K×Int}{a:aX.Row}{bits:Nat}(d:l7 b a bits=true)(W:Nat)(s:W<2^bits):bK b W=eJ a W/\cJ b W=cA a W:=by
 simp only[l7,cX,bb,cC]at d;obtain⟨⟨⟨⟨⟨⟨⟨⟨⟨⟨⟨g,c⟩,k⟩,l⟩,m⟩,n⟩,o⟩,p⟩,q⟩,h⟩,i⟩,j⟩:=d;obtain⟨u,f,r⟩:=b;simp only at *;obtain rfl:f=a.Wi:=by
  cases f;cases t:a.Wi;rw[t]at c;simp only at c;congr 1;exact Array.toList_inj.1 c
 have e:bK (u,a.Wi,r) W=eJ a W:=by
  unfold bK eJ;simp only;rw[Dj 68 _ _ _ _ m,Dj 83 _ _ _ _ n,UW,l,RF _ _ _ o,g]
 refine⟨e,?_⟩;unfold cJ cA nI;simp only;rw[e,Bm];have hd:(W/2^a.Wi.size==0)=true:=by rw[k,bb];exact yc s
 rw[hd,rc,<-p,<-q,<-h,<-i,<-j];rfl
def BF :((List.range 71).all fun a=>a==0 ||l7 (ae.longRow a) (aX.word a) 32)=true:=by decide+kernel
def BE :((List.range 27).all fun a=>a==0 ||l7 (ae.aZ a) (aX.half a) 16)=true:=by decide+kernel
theorem xs (d g:Nat->Option U):∀(c a:Nat),(∀b,a<=b->b<a+c->d b=g b)->scan d a c=scan g a c
 |0,_,_=>rfl
 |c+1,a,e=>by
  rw[k4,k4,e a (by omega) (by omega),xs d g c (a+1) (fun b f h=>e b (by omega) (by omega))]
def Te (W a:Nat)(h:G W)(g:1<=a)(f:a<71):cK 4 W a=hL W a:=by
 have b:=cj.1 BF a (by simpa using f);rw[cR]at b;rcases b with b|b
 . rw[bb]at b;omega
 . obtain⟨c,d⟩:=xn b W (by have:(2:Nat)^32=4294967296:=R;omega);unfold cK hL;have e:rowAt 4 a=ae.longRow a:=rfl;rw[e,c,d]
def Td (W a:Nat)(h:W<=65535)(g:1<=a)(f:a<27):cK 2 W a=hK W a:=by
 have b:=cj.1 BE a (by simpa using f);rw[cR]at b;rcases b with b|b
 . rw[bb]at b;omega
 . obtain⟨c,d⟩:=xn b W Gd;unfold cK hK;have e:rowAt 2 a=ae.aZ a:=rfl;rw[e,c,d]
def mc (a:Int):aP a=cF a:=by
 unfold aP cF sizeOf;by_cases e:a<0\/4294967295<a
 . simp only[B e,if_true]
 . simp only[z e];by_cases f:a%4=3
   . simp only[B f];rw[z (by decide)];have c:(bY 4).toNat=70:=rfl;rw[c,xs _ _ 70 1 (fun d b h=>Te a.toNat d (by omega) b (by omega))];cases scan (hL a.toNat) 1 70<;>rfl
   . simp only[z f];by_cases g:a<=65535
     . simp only[B g,z (show ¬65535<a by omega)];rw[z (by decide)];have c:(bY 2).toNat=26:=rfl;rw[c,xs _ _ 26 1 (fun d b h=>Td a.toNat d (by omega) b (by omega))];cases scan (hK a.toNat) 1 26<;>rfl
     . simp only[z g,B (show 65535<a by omega),if_true]
section
attribute [local go_sem ↓] Go.wp_at_zero Go.wp_at_succ
def PU (c:D)(b:Nat)(a:Q)(d:Nat):T (c.alloc (.cells (ma b a).toArray d)) c.heap.size b a:=
 ⟨fun f e=>(fK _ _ _ _ _ rfl).trans (by simp),fun g=>fp _ _ _ _ _ rfl,by simp⟩
def ac7 (d g e:Nat)(c:Q)(b:D)(h:Hid (T b d g c)):
 Calls prog 158 #[I d,I e] b fun i f=>i=.returned (I b.heap.size)/\T f b.heap.size e c/\Kept [] b f:=by
 have a:=h.out;have c1:=a.c1;have c2:=a.c2;have c3:=a.c3;have c4:=a.c4;have c5:=a.c5;have R:=a.W4;have S:=a.W5;have U:=a.Xj;have V:=a.Xi;have k:=a.Xt;have l:=a.XO;have m:=a.X1;have n:=a.X2;have o:=a.Yd;have p:=a.Ys;have q:=a.X3;have r:=a.Ye;have s:=a.Yf;have t:=a.Yg;have u:=a.Yh;have v:=a.Yt;have w:=a.X4;have x:=a.Yi;have y:=a.Yj;have z:=a.Yk;have A:=a.Yl;have B:=a.XB;have C:=a.XI;have E:=a.X5;have F:=a.Ym;have G:=a.X6;have H:=a.Ya;have K:=a.Xk;have L:=a.Xl;have M:=a.Xq;have N:=a.XJ;have O:=a.XC;have P:=a.Xm;have W:=a.lt;have j:¬d=b.heap.size:=J;clear a;go_enter func158,ntmps158;go_upto_region 1 with fail;go_region;all_goals
  go_wp2_with fail;go_ret;refine⟨rfl,?_,?_⟩
  . exact PU b.drew e c 218
  . exact(Kept.refl _ _).drew.alloc _
end
end Go.Proofs.YtmlgonbhoknoiaaGreatDoor
