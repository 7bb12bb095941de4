import Derived.Test.YtmlgonbhoknoiabGreatDoorJAS
import Derived.Test.YtmlgonbhoknoiabGreatDoorJAX
set_option maxHeartbeats 8000000
set_option maxRecDepth 100000
set_option linter.all false
namespace Go.Proofs.YtmlgonbhoknoiabGreatDoor
open Go.RowKit Go.Proofs.Tryz
section
attribute [local go_sem ↓] Go.wp_at_zero Go.wp_at_succ
def PD (a:Nat):(a&&&256)/256=a/256%2:=by
 have b:=fK a 8;rw[show(2:Nat)^8=256 from rfl]at b;rw[b];have c:aa a 8=decide (a/256%2=1):=rfl;rw[c];rcases gg (a/256)with b|b<;>rw[b]<;>rfl
def mm (a:N):N:=hq {a with mode:=a.c.V5/2048%4,c:={a.c with V5:=h2 a.c.V5}}
def my (a:N):N:=hq {a with mode:=a.c.V5/256%2,c:={a.c with V5:=ht a.c.V5}}
def fS (a:N)(b:Int):N:=if b=67 then mm a else if b=68 then my a else if b=69 then{a with waits:=true}else a
def ahb (h q e)(k:af e)(g:Int)(w)(a:Hid (E w h q e)):
 an 205 #[I h,j g] (.tuple #[]) [h] h q (fS e g) w:=by
 have D:=a.out.Xl;have G:=a.out.Xq;have H:=a.out.Xm;have J:=a.out.Wb;have v:=k.V5;unfold fS;by_cases d:g=67
 . subst d;rw[B rfl];unfold mm;have p:bits .and .i64 (e.c.V5:Int) 6144=((e.c.V5&&&6144:Nat):Int):=bl e.c.V5 6144 m m;have u:bits .and .i64 (e.c.V5:Int) 6144/2048=((e.c.V5/2048%4:Nat):Int):=by rw[p,<-wu];simp
   have i:=l (agB e.c.V5 v);obtain⟨r,o⟩:=y (h2 e.c.V5);simp only[<-o]at i|-;obtain⟨s,n⟩:=y (e.c.V5/2048%4);rw[<-n]at u|-;have x:=l (fun W t=>rc h q {e with mode:=s,c:={e.c with V5:=r}} W t);clear o n k p;go_enter func205,ntmps205;go_wp2_with(go_at_call 282;refine(i.out _).mono ?_;rintro A C ⟨rfl,rfl⟩);exact KN
 rw[z d];have K:(g==67)=false:=i3;by_cases c:g=68
 . subst c;rw[B rfl];unfold my;have p:bits .and .i64 (e.c.V5:Int) 256=((e.c.V5&&&256:Nat):Int):=bl e.c.V5 256 m m;have u:bits .and .i64 (e.c.V5:Int) 256/256=((e.c.V5/256%2:Nat):Int):=by rw[p,<-PD];simp
   have i:=l (aih e.c.V5 v);obtain⟨r,o⟩:=y (ht e.c.V5);simp only[<-o]at i|-;obtain⟨s,n⟩:=y (e.c.V5/256%2);rw[<-n]at u|-;have x:=l (fun W t=>rc h q {e with mode:=s,c:={e.c with V5:=r}} W t);clear o n k p d;go_enter func205,ntmps205;go_wp2_with(go_at_call 283;refine(i.out _).mono ?_;rintro A C ⟨rfl,rfl⟩);exact KN
 rw[z c];have L:(g==68)=false:=eT;by_cases f:g=69
 . subst f;rw[B rfl];clear k d c;go_enter func205,ntmps205;go_wp2_with fail;go_end0;exact⟨rfl,a.out.set 35 _ rfl rfl m,(Kept.refl _ _).setCell (.inl F) _⟩
 rw[z f];have M:(g==69)=false:=lS;clear k d c f;go_enter func205,ntmps205;exact vH
def iM (a:N)(b c:Nat):N:={a with mode:=1,V3:=ga a.c.WH b,c:={a.c with Wu:=a.V3,WD:=b,WI:=c,V5:=h3 a.c.V5 a.mode}}
def iL (a:N)(b c:Nat):N:={a with mode:=3,V3:=ga a.c.Wz b,c:={a.c with Wm:=a.V3,Wx:=b,WB:=c,V5:=js a.c.V5 a.mode}}
def FW (c h a)(f:af a)(b e:Nat)(t:G b)(i)(d:Hid (E i c h a)):
 an 129 #[I c,j b,j e] (.tuple #[]) [c] c h (iM a b e) i:=by
 have v:=d.out.Xk;have w:=d.out.Xl;have x:=d.out.Xm;have C:=d.out.Y7;have z:=d.out.YM;have A:=d.out.Y9;have B:=d.out.Za;have D:=d.out.Wb;have o:=f.V5;have u:=f.mode;have q:=f.WH;have ST:=l (aii a.c.V5 a.mode o);have g:=l (FI a.c.WH b q t);unfold iM;obtain⟨r,n⟩:=y (h3 a.c.V5 a.mode);simp only[<-n]at ST|-;obtain⟨p,k⟩:=y (ga a.c.WH b);simp only[<-k]at g|-;have s:Hid (E ((((((i.setCell ⟨c,53,none⟩ (j a.V3)).setCell ⟨c,54,none⟩ (j b)).setCell ⟨c,55,none⟩ (j e)).setCell ⟨c,38,none⟩ (j r)).setCell ⟨c,34,none⟩ (j 1)).setCell ⟨c,33,none⟩ (j p)) c h {a with mode:=1,V3:=p,c:={a.c with Wu:=a.V3,WD:=b,WI:=e,V5:=r}}):=l ((((((d.out.set (X':={a with c:={a.c with Wu:=a.V3}}) 53 _ rfl rfl m).set (X':={a with c:={a.c with Wu:=a.V3,WD:=b}}) 54 _ rfl rfl m).set (X':={a with c:={a.c with Wu:=a.V3,WD:=b,WI:=e}}) 55 _ rfl rfl m).set (X':={a with c:={a.c with Wu:=a.V3,WD:=b,WI:=e,V5:=r}}) 38 _ rfl rfl m).set (X':={a with mode:=1,c:={a.c with Wu:=a.V3,WD:=b,WI:=e,V5:=r}}) 34 _ rfl rfl m).set 33 _ rfl rfl m);clear n k f u q o;go_enter func129,ntmps129;go_upto_region 3 with fail;go_region_with(go_at_call 188;refine(ST.out _).mono ?_;rintro F H ⟨rfl,rfl⟩);all_goals
  exact Nw
def FV (c h a)(f:af a)(b e:Nat)(t:G b)(i)(d:Hid (E i c h a)):
 an 130 #[I c,j b,j e] (.tuple #[]) [c] c h (iL a b e) i:=by
 have w:=d.out.Xk;have x:=d.out.Xl;have z:=d.out.Xm;have D:=d.out.Y2;have A:=d.out.YL;have B:=d.out.Y5;have C:=d.out.Y6;have F:=d.out.Wb;have o:=f.V5;have v:=f.mode;have u:a.mode<4:=J;have q:=f.Wz;have ST:=l (agC a.c.V5 a.mode o u);have g:=l (FI a.c.Wz b q t);unfold iL;obtain⟨r,n⟩:=y (js a.c.V5 a.mode);simp only[<-n]at ST|-;obtain⟨p,k⟩:=y (ga a.c.Wz b);simp only[<-k]at g|-;have s:Hid (E ((((((i.setCell ⟨c,47,none⟩ (j a.V3)).setCell ⟨c,48,none⟩ (j b)).setCell ⟨c,49,none⟩ (j e)).setCell ⟨c,38,none⟩ (j r)).setCell ⟨c,34,none⟩ (j 3)).setCell ⟨c,33,none⟩ (j p)) c h {a with mode:=3,V3:=p,c:={a.c with Wm:=a.V3,Wx:=b,WB:=e,V5:=r}}):=l ((((((d.out.set (X':={a with c:={a.c with Wm:=a.V3}}) 47 _ rfl rfl m).set (X':={a with c:={a.c with Wm:=a.V3,Wx:=b}}) 48 _ rfl rfl m).set (X':={a with c:={a.c with Wm:=a.V3,Wx:=b,WB:=e}}) 49 _ rfl rfl m).set (X':={a with c:={a.c with Wm:=a.V3,Wx:=b,WB:=e,V5:=r}}) 38 _ rfl rfl m).set (X':={a with mode:=3,c:={a.c with Wm:=a.V3,Wx:=b,WB:=e,V5:=r}}) 34 _ rfl rfl m).set 33 _ rfl rfl m);clear n k f v q o;go_enter func130,ntmps130;go_upto_region 3 with fail;go_region_with(go_at_call 190;refine(ST.out _).mono ?_;rintro H K ⟨rfl,rfl⟩);all_goals
  exact Nw
def iK (a:N)(b:Nat):N:=if gu a a.c.V9 b=true then iM a (b+2147483648) 0 else iL a (b+2147483648) 0
def FU (c d a)(e:af a)(b:Nat)(C:b<32)(p)(f:Hid (E p c d a)):
 an 80 #[I c,j b] (.tuple #[]) [c] c d (iK a b) p:=by
 have B:=f.out.YB;have g:=l (FF c d a a.c.V9 b e.V9 p f);have i:=l (FW c d a e (b+2147483648) 0 m);have h:=l (FV c d a e (b+2147483648) 0 m);have r:((b+2147483648:Nat):Int)=(b:Int)+2147483648:=J;have q:((0:Nat):Int)=0:=rfl;rw[r,q]at i h;unfold iK;obtain⟨v,u⟩:=y (gu a a.c.V9 b);rw[<-u]at g|-;obtain⟨A,t⟩:=y (iM a (b+2147483648) 0);obtain⟨z,s⟩:=y (iL a (b+2147483648) 0);rw[<-t]at i|-;rw[<-s]at h|-;clear u t s r q e;cases v
 . go_enter func80,ntmps80;go_wp2_with(first|(go_at_call 128;refine g.out.mono ?_;rintro o w ⟨rfl,rfl⟩)|(go_at_call 130;refine(h.out _ f).mono ?_;rintro o x ⟨rfl,n,k⟩));go_end0;exact⟨rfl,n,k⟩
 . go_enter func80,ntmps80;go_wp2_with(first|(go_at_call 128;refine g.out.mono ?_;rintro o w ⟨rfl,rfl⟩)|(go_at_call 129;refine(i.out _ f).mono ?_;rintro o x ⟨rfl,n,k⟩));refine ab (rr rfl _ _ _) rfl ?_;exact⟨rfl,n,k⟩
def iI (a:N)(b c:Nat):N:=if gu a a.c.WG b=true then iM a b c else iL a b c
def FT (c e a)(f:af a)(b d:Nat)(C:b<32)(n)(i:Hid (E n c e a)):
 an 83 #[I c,.agg #[j b,j d]] (.tuple #[]) [c] c e (iI a b d) n:=by
 have B:=i.out.Y1;have D:=i.out.lt;have g:Hid (E (n.alloc (.cells #[j b,j d] 118)) c e a):=l (i.out.kept ((Kept.refl _ _).alloc _));have h:=l (FF c e a a.c.WG b f.WG);have p:=l (FW c e a f b d m);have o:=l (FV c e a f b d m);unfold iI;obtain⟨v,s⟩:=y (gu a a.c.WG b);rw[<-s]at h|-;obtain⟨A,r⟩:=y (iM a b d);obtain⟨z,q⟩:=y (iL a b d);rw[<-r]at p|-;rw[<-q]at o|-;clear s r q f;cases v
 . go_enter func83,ntmps83;go_upto_region 1 with fail;go_quiet ((go_at_call 128;exact bq (h.out _ (l (g.out.kept ((Kept.refl [] _).drewN _))))));go_upto_region 3 with fail;have k:=l (g.out.kept ((Kept.refl [] _).drewN nq));go_wp2_with(go_at_call 130;refine(o.out _ k).mono ?_;rintro w x ⟨rfl,u,t⟩);go_end0;exact KO
 . go_enter func83,ntmps83;go_upto_region 1 with fail;go_quiet ((go_at_call 128;exact bq (h.out _ (l (g.out.kept ((Kept.refl [] _).drewN _))))));go_upto_region 2 with fail;have k:=l (g.out.kept ((Kept.refl [] _).drewN nq));go_wp2_with(go_at_call 129;refine(p.out _ k).mono ?_;rintro w x ⟨rfl,u,t⟩);refine ab (rr rfl _ _ _) rfl ?_;exact KO
def ta (t0 t1 t2 t3 t4 t5 v1 t6 t7 v2:Bool):Bool:=if t0=false then false else if t1=true then false else if(t2&&t3)=true then false else if(t4&&t5)=true then v1 else if(t6&&t7)=true then v2 else true
def ff (a:N)(i:ak):Bool:=ta (aA a i.V2).2 (decide (a.mode<i.V2.toNat/256%4)) (decide (i.V2.toNat/1024%4=3)) (cT i) (decide (i.V2.toNat=384)) (decide (a.mode=1)) (!aa a.c.V5 20) (decide (3072<=i.V2.toNat)) (decide (i.V2.toNat<=3327)) (qs a i.V2.toNat)
def BC (a:Nat):a&&&3=a%4:=rp a 2
def Uo (c:N)(b:Int)(a:(aA c b).2=true):0<=b/\b<=3860:=by
 unfold aA at a;split at a
 . omega
 . split at a
   . omega
   . split at a
     . omega
     . have:=of_decide_eq_true a;omega
def agE (c f b)(k:af b)(i:ak)(e:(aA b i.V2).2=false)(g)(a:Hid (E g c f b)):
 aE 202 #[I c,ag i] (.bool false) g:=by
 have t:=a.out.lt;have p:=a.out.Xl;have m:Hid (E (g.alloc (az i)) c f b):=b6;have d:=l (fun W n=>j7 c f b k i.V2 W n);have h:=l (fun W=>j8 i W);obtain⟨⟨s,q⟩,j⟩:∃r,r=aA b i.V2:=⟨_,rfl⟩;simp only[<-j]at d e;try dsimp only at d e
 subst e;unfold az at m h;unfold ag at h|-;obtain⟨x,y,z,A,u,v⟩:=i;dsimp only at *;clear k j;go_enter func202,ntmps202;go_wp2_with(go_at_call 217;refine(d.out _ m).mono ?_;rintro w B ⟨rfl,o⟩);go_ret;exact⟨rfl,Kept.trans ((Kept.refl _ _).alloc _) o⟩
def agF (h p d)(n:af d)(i:ak)(k:(aA d i.V2).2=true)(j)(a:Hid (E j h p d)):
 aE 202 #[I h,ag i] (.bool (ff d i)) j:=by
 have am:=a.out.lt;have Q:=a.out.Xl;have A:Hid (E (j.alloc (az i)) h p d):=b6;have v:=l (fun W e=>j7 h p d n i.V2 W e);have t:=l (fun W=>j8 i W);obtain⟨R,S⟩:=Uo d i.V2 k;unfold ff;obtain⟨⟨aj,ai⟩,D⟩:∃r,r=aA d i.V2:=⟨_,rfl⟩;simp only[<-D]at v k|-;try dsimp only at v k|-
 subst k;obtain⟨t3,G⟩:=y (cT i);simp only[<-G]at t|-;unfold az at A t;unfold ag at t|-;obtain⟨V,ab,ac,ad,N,U⟩:=i;dsimp only at *;obtain⟨c,rfl⟩:∃c:Nat,N=c:=⟨N.toNat,by omega⟩;have C:(c:Int).toNat=c:=J;rw[C];have P:=l (fun W e=>agG h p d n c W e);have T:=n.V5;have ah:=a.out.Xm;have X:bits .and .i64 ((c:Int)/256) 3=((c/256%4:Nat):Int):=by
  have:=bl (c/256) 3 m m;rw[BC]at this;rw[<-this];simp
 have Y:bits .and .i64 ((c:Int)/1024) 3=((c/1024%4:Nat):Int):=by
  have:=bl (c/1024) 3 m m;rw[BC]at this;rw[<-this];simp
 have Z:(bits .and .i64 (d.c.V5:Int) 1048576==0)=!aa d.c.V5 20:=by
  rw[show(1048576:Int)=((1048576:Nat):Int)from rfl,bl d.c.V5 1048576 (by omega) (by omega),eV];exact dg d.c.V5 20
 obtain⟨v1,L⟩:=y (!aa d.c.V5 20);rw[<-L]at Z|-;obtain⟨v2,M⟩:=y (qs d c);simp only[<-M]at P|-;obtain⟨f,F⟩:=y (d.mode);rw[<-F]at Q|-;obtain⟨q,H⟩:=y (c/256%4);rw[<-H]at X|-;obtain⟨B,K⟩:=y (c/1024%4);rw[<-K]at Y|-;obtain⟨t1,g⟩:=y (decide (f<q));obtain⟨t2,w⟩:=y (decide (B=3));obtain⟨t4,x⟩:=y (decide (c=384));obtain⟨t5,z⟩:=y (decide (f=1));obtain⟨t6,s⟩:=y (decide (3072<=c));obtain⟨t7,o⟩:=y (decide (c<=3327));rw[<-g,<-w,<-x,<-z,<-s,<-o];have aJ:decide ((q:Int)> (f:Int))=t1:=by rw[g];simp
 have aL:decide ((f:Int)< (q:Int))=t1:=by rw[g];simp
 have aM:decide (f<q)=t1:=g.symm;have aN:((B:Int)==3)=t2:=by rw[w];by_cases e:B=3<;>simp[e]<;>omega
 have aO:((c:Int)==384)=t4:=by rw[x];by_cases e:c=384<;>simp[e]<;>omega
 have aP:((f:Int)==1)=t5:=by rw[z];by_cases e:f=1<;>simp[e]<;>omega
 have aR:decide ((c:Int)>=3072)=t6:=Hx;have aS:decide (3072<=(c:Int))=t6:=Hx;have aT:decide (3072<=c)=t6:=s.symm;have aU:decide ((c:Int)<=3327)=t7:=by rw[o];by_cases e:c<=3327<;>simp[e]<;>omega
 have aV:decide (c<=3327)=t7:=o.symm;clear n D L M F H K g w G x z s o C R S T;go_enter func202,ntmps202;go_upto_region 4 with(go_at_call 217;refine(v.out _ A).mono ?_;rintro aI O ⟨rfl,b⟩);have u:=l (A.out.kept b);have d38:=u.out.Xm;have al:=u.out.lt;obtain⟨an,ao,ap,aq,ar,au,av,aC,aD,aw,aF,ax,aG,ay,aH,aB⟩:a7 O j.heap.size V ab ac ad (c:Nat) U:=i1;have ae:Hid (Kept [] j O):=l (Kept.trans ((Kept.refl _ _).alloc _) b);clear b;cases t1;rotate_left
 . exact pU
 cases t2
 . exact KT
 . cases t3;rotate_left
   . exact pU
   exact KT
def FK (b e a)(f:af a)(i:ak)(c)(g:Hid (E c b e a)):
 aE 202 #[I b,ag i] (.bool (ff a i)) c:=by
 cases d:(aA a i.V2).2
 . have h:ff a i=false:=by unfold ff ta;rw[B d]
   rw[h];exact agE b e a f i d c g
 . exact agF b e a f i d c g
end
def hL (W a:Nat):Option U:=if cy (aW.word a) W=true then some (eJ (aW.word a) W)else none
def hK (W a:Nat):Option U:=if cy (aW.half a) W=true then some (eJ (aW.half a) W)else none
def cD (a:Int):U×Int:=
 if a<0\/4294967295<a then(aF,2)else
 if a%4=3 then((scan (hL a.toNat) 1 70).getD ⟨0,0,0,0,0,4⟩,0)else
 if 65535<a then(aF,2)else((scan (hK a.toNat) 1 26).getD ⟨0,0,0,0,0,2⟩,0)
def tz (a:aW.Row):Bool:=decide (a.Wi.size<=32)&&a.Wi.data.toList.all (fun b=>decide (b.toNat<=122))&&decide (a.no.size<=32)
def Fj :((List.range 71).all fun a=>tz (aW.word a))=true:=by decide+kernel
def QU :((List.range 27).all fun a=>tz (aW.half a))=true:=by decide+kernel
def xI {b:aW.Row}(a:tz b=true):b.Wi.size<=32/\(∀c∈b.Wi.data.toList,c.toNat<=122)/\b.no.size<=32:=by
 simp only[tz,cU,cA,cX]at a;exact⟨a.1.1,a.1.2,a.2⟩
def UP {W a:Nat}{e b:Option U}(d:cy (aW.word a) W=true)(c:Hid ((match hL W a with|some i=>some i|none=>e)=b)):b=some (eJ (aW.word a) W):=by
 rw[<-c.out,hL,B d]
def UQ {W c:Nat}{b a:Option U}(e:cy (aW.word c) W=false)(d:Hid ((match hL W c with|some i=>some i|none=>b)=a)):Hid (b=a):=by
 show b=a;rw[<-d.out,hL,z (by rw[e];decide)]
def UN {W a:Nat}{e b:Option U}(d:cy (aW.half a) W=true)(c:Hid ((match hK W a with|some i=>some i|none=>e)=b)):b=some (eJ (aW.half a) W):=by
 rw[<-c.out,hK,B d]
def UO {W c:Nat}{b a:Option U}(e:cy (aW.half c) W=false)(d:Hid ((match hK W c with|some i=>some i|none=>b)=a)):Hid (b=a):=by
 show b=a;rw[<-d.out,hK,z (by rw[e];decide)]
def Dk (a:Int)(b:a<0\/4294967295<a\/(0<=a/\a<=4294967295/\Hid (¬a%4=3)/\65535<a))(d:D):
 ac 117 #[j a] (.tuple #[aV aF,j 2]) d:=by
 unfold aV aF;rcases b with b|b|⟨f,g,c,h⟩
 . exact AM
 . have e:¬a<0:=J;exact AM
 . have i:(a%4==3)=false:=by rw[b4];exact c.out
   exact AM
def TP (W:Nat)(B:Hid (W%4=3))(I:G W)(n:D):
 Calls prog 117 #[j W] n fun q x=>(∃i,q=.returned (.tuple #[aV i,j 0])/\Hid (i=(scan (hL W) 1 70).getD ⟨0,0,0,0,0,4⟩))/\Below n.heap.size n x:=by
 have H:((W:Int)%4==3)=true:=by have:=B.out;rw[ba];omega
 go_enter func117,ntmps117;go_wp2_with fail;go_loopw [4] (fun s wr=>∃b:Nat,1<=b/\b<=71/\s=j b/\hI n wr/\Hid (scan (hL W) b (71-b)=scan (hL W) 1 70)) (fun s _=>71- (intOf s).toNat);case atStart=>exact Aq
 case round=>
  obtain⟨b,K,L,rfl,a,c⟩:=hrel;by_cases M:b<=70
  . obtain⟨C,w,E⟩:=xI (cX.1 Fj b ad);have z:=cE w;clear w;have r:=k4 (hL W) b (70-b);rw[show 70-b+1=71-b by omega]at r;rw[r]at c;clear r;go_wp2_with fail;refine(xz b m m _).mono ?_;rintro q N ⟨rfl,t⟩;replace a:=a.more t;clear t;simp only[dw];go_wp2_with fail;refine(Do (aW.word b) C z.out E W m _).mono ?_;rintro q O ⟨rfl,u⟩;replace a:=(a.alloc _).more u;clear u;obtain⟨-,p,e,f,g,h,k,l,F⟩:=id a;cases v:cy (aW.word b) W
    . have d:=UQ v c;clear c;simp only[aV,aF];go_wp2;go_roundw;case rel=>exact⟨b+1,by omega,by omega,by go_num,a.alloc _,by rw[show 71- (b+1)=70-b by omega];exact d⟩
      case measure=>exact a4
    . have d:=cE (UP v c);clear c;obtain⟨i,o⟩:=y (eJ (aW.word b) W);exact Lr
  . have A:71-b=0:=J;rw[A]at c;obtain⟨-,p,e,f,g,h,k,l,F⟩:=id a;go_wp2;refine ab (v:=.tuple #[.agg #[j 0,j 0,j 0,j 0,j 0,j 4],j 0]) Gx rfl ⟨⟨⟨0,0,0,0,0,4⟩,rfl,?_⟩,?_⟩
    . rw[<-c.out];rfl
    . exact Ap
def TO (W:Nat)(B:Hid (¬W%4=3))(H:W<=65535)(n:D):
 Calls prog 117 #[j W] n fun q x=>(∃i,q=.returned (.tuple #[aV i,j 0])/\Hid (i=(scan (hK W) 1 26).getD ⟨0,0,0,0,0,2⟩))/\Below n.heap.size n x:=by
 have G:((W:Int)%4==3)=false:=by have:=B.out;rw[b4];omega
 go_enter func117,ntmps117;go_wp2_with fail;go_loopw [8] (fun s wr=>∃b:Nat,1<=b/\b<=27/\s=j b/\hI n wr/\Hid (scan (hK W) b (27-b)=scan (hK W) 1 26)) (fun s _=>27- (intOf s).toNat);case atStart=>exact Aq
 case round=>
  obtain⟨b,I,K,rfl,a,c⟩:=hrel;by_cases L:b<=26
  . obtain⟨C,w,E⟩:=xI (cX.1 QU b ad);have z:=cE w;clear w;have r:=k4 (hK W) b (26-b);rw[show 26-b+1=27-b by omega]at r;rw[r]at c;clear r;go_wp2_with fail;refine(T4 b m m _).mono ?_;rintro q M ⟨rfl,t⟩;replace a:=a.more t;clear t;simp only[dw];go_wp2_with fail;refine(Do (aW.half b) C z.out E W m _).mono ?_;rintro q N ⟨rfl,u⟩;replace a:=(a.alloc _).more u;clear u;obtain⟨-,p,e,f,g,h,k,l,F⟩:=id a;cases v:cy (aW.half b) W
    . have d:=UO v c;clear c;simp only[aV,aF];go_wp2;go_roundw;case rel=>exact⟨b+1,by omega,by omega,by go_num,a.alloc _,by rw[show 27- (b+1)=26-b by omega];exact d⟩
      case measure=>exact a4
    . have d:=cE (UN v c);clear c;obtain⟨i,o⟩:=y (eJ (aW.half b) W);exact Lr
  . have A:27-b=0:=J;rw[A]at c;obtain⟨-,p,e,f,g,h,k,l,F⟩:=id a;go_wp2;refine ab (v:=.tuple #[.agg #[j 0,j 0,j 0,j 0,j 0,j 2],j 0]) Gx rfl ⟨⟨⟨0,0,0,0,0,2⟩,rfl,?_⟩,?_⟩
    . rw[<-c.out];rfl
    . exact Ap
def qC (a:Int)(d:D):
 ac 117 #[j a] (.tuple #[aV (cD a).1,j (cD a).2]) d:=by
 by_cases c:a<0\/4294967295<a
 . have b:cD a=(aF,2):=by unfold cD;rw[B c]
   rw[b];exact Dk a (by rcases c with f|f;exact .inl f;exact .inr (.inl f)) d
 obtain⟨W,rfl⟩:=h7 (show 0<=a by omega);by_cases e:(W:Int)%4=3
 . refine(TP W (show W%4=3 by omega) m d).mono ?_;rintro b n ⟨⟨i,rfl,l⟩,k⟩;have h:cD (W:Int)=(i,0):=by unfold cD;rw[z c,B e,dp,<-l.out]
   rw[h];exact⟨rfl,k⟩
 by_cases g:65535< (W:Int)
 . have b:cD (W:Int)=(aF,2):=by unfold cD;rw[z c,z e,B g]
   rw[b];exact Dk W (.inr (.inr ⟨by omega,by omega,e,g⟩)) d
 . refine(TO W (show ¬W%4=3 by omega) m d).mono ?_;rintro b n ⟨⟨i,rfl,l⟩,k⟩;have h:cD (W:Int)=(i,0):=by unfold cD;rw[z c,z e,z g,dp,<-l.out]
   rw[h];exact⟨rfl,k⟩
theorem val_zero (a:L):∀(b:List L) (e:Nat),C.ao (· ==a) b=0->C.val (· ==a) b e=0
 |[],_,_=>rfl
 |f::b,e,c=>by
  cases d:(f==a)
  . simp only[C.ao,d,bh]at c;simp only[C.val,d,bh];exact val_zero a b _ c
  . simp only[C.ao,d,cu]at c;omega
theorem tV (c d:L):∀(b:List L) (f:Nat),C.ao (· ==d) b=0->C.val (fun a=>a==c ||a==d) b f=C.val (· ==c) b f/\C.ao (fun a=>a==c ||a==d) b=C.ao (· ==c) b
 |[],_,_=>⟨rfl,rfl⟩
 |a::b,f,g=>by
  cases e:(a==d)
  . simp only[C.ao,e,bh]at g
    obtain⟨h,i⟩:=tV c d b (f/2) g
    cases j:(a==c)
    . simp only[C.val,C.ao,e,j,o2,bh];exact⟨h,i⟩
    . simp only[C.val,C.ao,e,j,o2,cu];rw[h,i];exact⟨rfl,rfl⟩
  . simp only[C.ao,e,cu]at g;omega
def Ty (b c:L)(d:List L)(e:Nat):C.val (fun a=>a==b ||a==c) d e=C.val (fun a=>a==c ||a==b) d e/\C.ao (fun a=>a==b ||a==c) d=C.ao (fun a=>a==c ||a==b) d:=by
 have f:(fun a:L=>a==b ||a==c)=(fun a=>a==c ||a==b):=by funext a;rw[Bool.or_comm]
 rw[f];exact⟨rfl,rfl⟩
def tu (b:L)(a:List L)(c e:Int):Bool:=
 (C.ao (· ==b) a==0 ||C.ao (· ==66) a==0)&& (if C.ao (fun d=>d==b ||d==66) a=0 then c==e else c==0)
def DD (d:L)(f:K)(W:Nat)(m k:Int)(l:tu d (C.ah f.data.toList f.size) m k=true):
 (aM f d W:Int)+aM f 66 W+m=dl (fun n=>n==d ||n==66) f W k:=by
 simp only[tu,cU,dO,ba]at l;obtain⟨e,a⟩:=l;unfold aM dl;simp only;generalize C.ah f.data.toList f.size=c at *;rcases e with e|e
 . have i:=val_zero d c W e;obtain⟨h,g⟩:=tV 66 d c W e;obtain⟨o,j⟩:=Ty d 66 c W;rw[j,g]at a;rw[o,j,h,g,e,i];by_cases b:C.ao (· ==66) c=0
   . rw[B b]at a;rw[ba]at a;have:=val_zero 66 c W b;simp[b,this,a]
   . rw[z b]at a;rw[ba]at a;by_cases c3:C.ao (· ==66) c=3<;>simp[c3,b,a]
 . have i:=val_zero 66 c W e;obtain⟨h,g⟩:=tV d 66 c W e;rw[g]at a;rw[h,g,e,i];by_cases b:C.ao (· ==d) c=0
   . rw[B b]at a;rw[ba]at a;have:=val_zero d c W b;simp[b,this,a]
   . rw[z b]at a;rw[ba]at a;by_cases c3:C.ao (· ==d) c=3<;>simp[c3,b,a]
def Uz (a:K)(W:Nat):(aM a 84 W:Int)=dl (fun d=>d==84) a W 0:=by
 unfold aM dl;simp only;generalize C.ah a.data.toList a.size=c at *;by_cases b:C.ao (· ==84) c=0
 . have:=val_zero 84 c W b;simp[b,this]
 . by_cases c3:C.ao (· ==84) c=3<;>simp[c3,b]
theorem Eu (g:Nat):∀(b:List L) (c:Nat),(∀a∈b,a.toNat<=122)->e6 false g b c=(C.sum b c:Int)
 |[],_,_=>rfl
 |a::b,c,f=>by
  have i:=Eu g b (c/2) (fun j h=>f j (by simp[h]))
  have k:=f a (by simp)
  simp only[e6,C.sum,i,eh,o3,cP]
  by_cases e:97<=a.toNat
  . have d:C.isLet a=true:=by simp[C.isLet];omega
    rw[B e,d,cu];omega
  . have d:C.isLet a=false:=by simp[C.isLet];omega
    rw[z e,d,bh];omega
theorem Ev (b:L)(i:C.isLet b=true):∀(c:List L) (d:Nat),(∀a∈c,a.toNat<=122)->e6 true b.toNat c d=C.mA b c d
 |[],_,_=>rfl
 |a::c,d,g=>by
  have k:=Ev b i c (d/2) (fun l j=>g l (by simp[j]))
  have m:=g a (by simp)
  have h:a.toNat=b.toNat↔a=b:=oC
  simp only[e6,C.mA,k,true_and,h]
  by_cases f:97<=a.toNat
  . have e:C.isLet a=true:=by simp[C.isLet];omega
    rw[B f,B e]
  . have e:¬C.isLet a=true:=by simp[C.isLet];omega
    rw[z f,z e]
def w2 (a:List L)(b:Bool):Bool:=
 a.all (fun c=>decide (c.toNat<=122))&&C.apart a&& (!b ||(C.isLet (UInt8.ofNat (gH a))&&decide ((UInt8.ofNat (gH a)).toNat=gH a)&&decide (C.high a=2^(gH a-97))&&decide (C.qr (UInt8.ofNat (gH a)) a<2^(gH a-97))))
theorem RC (b:K)(c:Bool)(W:Nat)(g:w2 (C.ah b.data.toList b.size) c=true):c7 b c W=jX b c W:=by
 unfold c7 jX;generalize C.ah b.data.toList b.size=e at *;simp only[w2,cU,dO,cX,cA,oB]at g;obtain⟨⟨h,i⟩,a⟩:=g;cases c with
 |false=>rw[Eu _ _ _ h,C.RG]
 |true=>
  rcases a with a|⟨⟨⟨a,d⟩,j⟩,k⟩
  . cases a
  . have f:=Ev (UInt8.ofNat (gH e)) a e W h;rw[d]at f;rw[f];exact C.RJ e _ W i a (by rw[d];exact j) (by rw[d];exact k)
theorem BH (c:U):∀b:List L,b.any (dQ c)=((c.V2==0&&b.contains 105) ||(c.rd==0&&b.contains 100) ||(c.V1==0&&b.contains 115) ||(c.V6==0&&b.contains 116) ||(c.rd==2&&b.contains 50))
 |[]=>by simp
 |a::b=>by
  rw[yU,BH c b]
  simp only[List.contains_cons,dQ]
  have i:((105:L)==a)=(a==105):=by rw[dY,ba,ba];exact⟨jA,jA⟩
  have j:((100:L)==a)=(a==100):=by rw[dY,ba,ba];exact⟨jA,jA⟩
  have k:((115:L)==a)=(a==115):=by rw[dY,ba,ba];exact⟨jA,jA⟩
  have l:((116:L)==a)=(a==116):=by rw[dY,ba,ba];exact⟨jA,jA⟩
  have m:((50:L)==a)=(a==50):=by rw[dY,ba,ba];exact⟨jA,jA⟩
  rw[i,j,k,l,m]
  generalize (a==105)=d,(a==100)=e,(a==115)=f,(a==116)=g,(a==50)=h,b.contains 105=n,b.contains 100=o,b.contains 115=p,b.contains 116=q,b.contains 50=r,(c.V2==0)=d1,(c.rd==0)=d2,(c.V1==0)=d3,(c.V6==0)=d4,(c.rd==2)=d5
  rw[rE d,rE e,rE f,rE g,rE h]
  simp only[Bool.and_or_distrib_left]
  ac_rfl
def l5 (b:Int×K×Int)(a:aW.Row)(bits:Nat):Bool:=
 b.1==a.op&&b.2.1.data.toList==a.Wi.data.toList&&decide (a.Wi.size=bits)&& (hasB b.2.2 1==a.Xw)&&
 tu 68 (C.ah a.Wi.data.toList a.Wi.size) (dz b.2.2) a.rd&&tu 83 (C.ah a.Wi.data.toList a.Wi.size) (dA b.2.2) a.V1&&w2 (C.ah a.Wi.data.toList a.Wi.size) a.Xw&&
 (hasB b.2.2 16==a.no.data.toList.contains 105)&& (hasB b.2.2 32==a.no.data.toList.contains 100)&& (hasB b.2.2 64==a.no.data.toList.contains 115)&& (hasB b.2.2 128==a.no.data.toList.contains 116)&& (hasB b.2.2 256==a.no.data.toList.contains 50)
def xJ {b:Int×K×Int}{a:aW.Row}{bits:Nat}(d:l5 b a bits=true)(W:Nat)(s:W<2^bits):bI b W=eJ a W/\cH b W=cy a W:=by
 simp only[l5,cU,ba,cA]at d;obtain⟨⟨⟨⟨⟨⟨⟨⟨⟨⟨⟨g,c⟩,k⟩,l⟩,m⟩,n⟩,o⟩,p⟩,q⟩,h⟩,i⟩,j⟩:=d;obtain⟨u,f,r⟩:=b;simp only at *;obtain rfl:f=a.Wi:=by
  cases f;cases t:a.Wi;rw[t]at c;simp only at c;congr 1;exact Array.toList_inj.1 c
 have e:bI (u,a.Wi,r) W=eJ a W:=by
  unfold bI eJ;simp only;rw[DD 68 _ _ _ _ m,DD 83 _ _ _ _ n,Uz,l,RC _ _ _ o,g]
 refine⟨e,?_⟩;unfold cH cy nM;simp only;rw[e,BH];have hd:(W/2^a.Wi.size==0)=true:=by rw[k,ba];exact yy s
 rw[hd,rC,<-p,<-q,<-h,<-i,<-j];rfl
def B0 :((List.range 71).all fun a=>a==0 ||l5 (ae.longRow a) (aW.word a) 32)=true:=by decide+kernel
def BZ :((List.range 27).all fun a=>a==0 ||l5 (ae.aY a) (aW.half a) 16)=true:=by decide+kernel
theorem xO (d g:Nat->Option U):∀(c a:Nat),(∀b,a<=b->b<a+c->d b=g b)->scan d a c=scan g a c
 |0,_,_=>rfl
 |c+1,a,e=>by
  rw[k4,k4,e a (by omega) (by omega),xO d g c (a+1) (fun b f h=>e b (by omega) (by omega))]
def SZ (W a:Nat)(h:G W)(g:1<=a)(f:a<71):cI 4 W a=hL W a:=by
 have b:=cX.1 B0 a (by simpa using f);rw[dO]at b;rcases b with b|b
 . rw[ba]at b;omega
 . obtain⟨c,d⟩:=xJ b W (by have:(2:Nat)^32=4294967296:=R;omega);unfold cI hL;have e:rowAt 4 a=ae.longRow a:=rfl;rw[e,c,d]
def SY (W a:Nat)(h:W<=65535)(g:1<=a)(f:a<27):cI 2 W a=hK W a:=by
 have b:=cX.1 BZ a (by simpa using f);rw[dO]at b;rcases b with b|b
 . rw[ba]at b;omega
 . obtain⟨c,d⟩:=xJ b W Gy;unfold cI hK;have e:rowAt 2 a=ae.aY a:=rfl;rw[e,c,d]
def ma (a:Int):aP a=cD a:=by
 unfold aP cD sizeOf;by_cases e:a<0\/4294967295<a
 . simp only[B e,if_true]
 . simp only[z e];by_cases f:a%4=3
   . simp only[B f];rw[z (by decide)];have c:(bX 4).toNat=70:=rfl;rw[c,xO _ _ 70 1 (fun d b h=>SZ a.toNat d (by omega) b (by omega))];cases scan (hL a.toNat) 1 70<;>rfl
   . simp only[z f];by_cases g:a<=65535
     . simp only[B g,z (show ¬65535<a by omega)];rw[z (by decide)];have c:(bX 2).toNat=26:=rfl;rw[c,xO _ _ 26 1 (fun d b h=>SY a.toNat d (by omega) b (by omega))];cases scan (hK a.toNat) 1 26<;>rfl
     . simp only[z g,B (show 65535<a by omega),if_true]
section
attribute [local go_sem ↓] Go.wp_at_zero Go.wp_at_succ
def Qq (c:D)(b:Nat)(a:Q)(d:Nat):T (c.alloc (.cells (l8 b a).toArray d)) c.heap.size b a:=
 ⟨fun f e=>(fJ _ _ _ _ _ rfl).trans (by simp),fun g=>fo _ _ _ _ _ rfl,by simp⟩
def acs (d g e:Nat)(c:Q)(b:D)(h:Hid (T b d g c)):
 Calls prog 169 #[I d,I e] b fun i f=>i=.returned (I b.heap.size)/\T f b.heap.size e c/\Kept [] b f:=by
 have a:=h.out;have c1:=a.c1;have c2:=a.c2;have c3:=a.c3;have c4:=a.c4;have c5:=a.c5;have R:=a.W4;have S:=a.W5;have U:=a.Xj;have V:=a.Xi;have k:=a.Xt;have l:=a.XO;have m:=a.X1;have n:=a.X2;have o:=a.Yd;have p:=a.Ys;have q:=a.X3;have r:=a.Ye;have s:=a.Yf;have t:=a.Yg;have u:=a.Yh;have v:=a.Yt;have w:=a.X4;have x:=a.Yi;have y:=a.Yj;have z:=a.Yk;have A:=a.Yl;have B:=a.XB;have C:=a.XI;have E:=a.X5;have F:=a.Ym;have G:=a.X6;have H:=a.Ya;have K:=a.Xk;have L:=a.Xl;have M:=a.Xq;have N:=a.XJ;have O:=a.XC;have P:=a.Xm;have W:=a.lt;have j:¬d=b.heap.size:=J;clear a;go_enter func169,ntmps169;go_upto_region 1 with fail;go_region;all_goals
  go_wp2_with fail;go_ret;refine⟨rfl,?_,?_⟩
  . exact Qq b.drew e c 223
  . exact(Kept.refl _ _).drew.alloc _
end
end Go.Proofs.YtmlgonbhoknoiabGreatDoor
