import Derived.Test.YtmlgonbhoknoiaaGreatDoorJAO
set_option maxHeartbeats 8000000
set_option maxRecDepth 100000
set_option linter.all false
namespace Go.Proofs.YtmlgonbhoknoiaaGreatDoor
open Go.RowKit Go.Proofs.Tryz
section
attribute [local go_sem ↓] Go.wp_at_zero Go.wp_at_succ
theorem Kept.drewN {b:List Nat}{c d:D}(a:Kept b c d)(e:Nat):Kept b c (d.drewN e):=⟨a.os,a.tape,a.output,a.size,a.block⟩
theorem E.drewN {a c e b}(f:E a c e b)(d:Nat):E (a.drewN d) c e b:=f.kept ((Kept.refl [] a).drewN d)
structure ak where
 op:Int
 rd:Nat
 V1:Nat
 V6:Nat
 V2:Int
 V4:Nat
def ag (i:ak):Value:=.agg #[j i.op,j i.rd,j i.V1,j i.V6,j i.V2,j i.V4]
def az (i:ak):Obj:=.cells #[j i.op,j i.rd,j i.V1,j i.V6,j i.V2,j i.V4] 53
structure aU (i:ak):Prop where
 rd:i.rd<32
 V1:i.V1<32
 V6:i.V6<32
 Xu:-4294967296<=i.V2
 Xv:i.V2<4294967296
 V4:i.V4=2\/i.V4=4
def cW (i:ak):Bool:=decide (i.op=61\/i.op=64\/i.V1≠0)
def j5 (i:ak)(j:D):
 Calls prog 135 #[ag i] j fun n k=>n=.returned (.bool (cW i))/\k=j.alloc (az i):=by
 obtain⟨b,o,f,p,l,m⟩:=i;obtain⟨h,a⟩:=y (cW ⟨b,o,f,p,l,m⟩);rw[<-a];unfold cW at a;dsimp only at a;unfold ag az;by_cases d:b=61
 . subst d;exact JQ
 have r:(b==61)=false:=iZ;by_cases c:b=64
 . subst c;exact JQ
 have s:(b==64)=false:=eT;by_cases g:f=0
 . subst g;have e:Hid (h=false):=by rw[a];show _=_;simp[d,c]
   clear a d c;exact z1
 . have e:Hid (h=true):=by rw[a];show _=_;simp[g]
   have t:((f:Int) !=0)=true:=M;have q:(f !=0)=true:=M;clear a d c g;exact z1
def cN (i:ak):Int:=if 61<=i.op/\i.op<=66/\cW i=true then(if i.V2=2816\/i.V2=2944 then 1 else if i.V2=2818\/i.V2=2946 then 4 else 0)else 0
def Fj (i:ak)(q:D):
 aE 85 #[ag i] (j (cN i)) q:=by
 have g:=fun W=>l (j5 i W);obtain⟨h,b⟩:=y (cN i);rw[<-b];unfold cN at b;obtain⟨n,m⟩:=y (cW i);simp only[<-m]at g b;clear m;unfold ag az at g;unfold ag;obtain⟨e,v,w,x,k,s⟩:=i;dsimp only at g b|-;have a:=l b;clear b;by_cases d:e<61
 . have p:decide (e<61)=true:=iZ;have f:Hid (h=0):=GP;clear a d;exact JR
 have t:decide (e<61)=false:=M;by_cases c:66<e
 . have p:decide (66<e)=true:=eT;have f:Hid (h=0):=GP;clear a d c;exact JR
 have u:decide (66<e)=false:=M;cases n
 . have f:Hid (h=0):=by rw[a.out];show _=_;rw[z (by simp)]
   clear a d c;go_enter func85,ntmps85;go_wp2_with(go_at_call 135;refine(g _).out.mono ?_;rintro o r ⟨rfl,rfl⟩);go_ret;exact⟨eM (by rw[f.out]),((Kept.refl _ _).alloc _).alloc _⟩
 . have f:Hid (h=(if k=2816\/k=2944 then 1 else if k=2818\/k=2946 then 4 else 0)):=by rw[a.out];show _=_;rw[B ⟨by omega,by omega,rfl⟩]
   clear a d c;go_enter func85,ntmps85;go_wp2_with(go_at_call 135;refine(g _).out.mono ?_;rintro o r ⟨rfl,rfl⟩);all_goals (go_ret;refine⟨eM ?_,((Kept.refl _ _).alloc _).alloc _⟩;rw[f.out];simp_all)
def de (a:Nat)(i:ak):Nat:=(a+i.V4)%4294967296
def li (d m:Nat)(a:N)(q:G a.V3)(i:ak)(f:aU i)(e)(c:Hid (E e d m a)):
 aE 195 #[I d,ag i] (j (de a.V3 i)) e:=by
 have p:=c.out.lt;have n:¬d=e.heap.size:=J;have o:=c.out.Xk;have k:=f.V4;have b:∀W,O 136 #[j ((a.V3:Int)+(i.V4:Int))] (j (de a.V3 i)) W:=fun W=>by have:=e0 ((a.V3:Int)+(i.V4:Int)) W;rw[show am ((a.V3:Int)+(i.V4:Int))=de a.V3 i by unfold am de;omega]at this;exact this
 have wr:IntKind.i64.wrap ((a.V3:Int)+(i.V4:Int))=(a.V3:Int)+(i.V4:Int):=dG;obtain⟨r,g⟩:=y (de a.V3 i);simp only[<-g]at b|-;have h:=l b;unfold ag;clear g b f k c;go_enter func195,ntmps195;go_upto_region 1 with fail;go_quiet ((go_at_call 136;exact br (h.out _)));exact py
def Fe (e g:Nat)(b:N)(s:∀i,b.x.getD i 0<4294967296)(i:ak)(k:aU i)(r:5<=i.op/\i.op<=10)(m)(a:Hid (E m e g b)):
 aE 194 #[I e,ag i] (.bool (holds i.op (b.x.getD i.V1 0) (b.x.getD i.V6 0))) m:=by
 have f:Hid (E (m.alloc (az i)) e g b):=b7;have n:=s i.V1;have p:=s i.V6;have h:=l (fun W d=>bV e g b i.V1 k.V1 W d);have j:=l (fun W d=>bV e g b i.V6 k.V6 W d);obtain⟨t,o⟩:=y (b.x.getD i.V1 0);obtain⟨u,q⟩:=y (b.x.getD i.V6 0);simp only[<-o]at n h|-;simp only[<-q]at p j|-;unfold az at f;unfold ag;obtain⟨c,C,D,F,A,B⟩:=i;dsimp only at r f h j|-;clear o q k a;have d:c=5\/c=6\/c=7\/c=8\/c=9\/c=10:=J;have x:=l (tM t n);have z:=l (tM u p);clear r;rcases d with rfl|rfl|rfl|rfl|rfl|rfl;all_goals
  go_enter func194,ntmps194;go_wp2_with fail;refine(h.out _ f).mono ?_;rintro v w ⟨rfl,rfl⟩;go_wp2_with fail;refine(j.out _ f).mono ?_;rintro v w ⟨rfl,rfl⟩;go_wp2_with fail
 . exact JS
 . exact JS
 . exact JT
 . exact JT
 . exact z6
 . exact z6
def dp (a:N)(i:ak):Nat:=
 if i.op=1 then am (i.V2*4096)else if i.op=2 then am ((a.V3:Int)+i.V2*4096)else if i.op=3\/i.op=4 then de a.V3 i
 else if i.op<=27 then cp i.op (a.x.getD i.V1 0) (am i.V2)else cp i.op (a.x.getD i.V1 0) (a.x.getD i.V6 0)
def aiJ (d f b)(g:af b)(i:ak)(c:aU i)(z:i.op=1)(h)(a:Hid (E h d f b)):
 aE 197 #[I d,ag i] (j (am (i.V2*4096):Nat)) h:=by
 have F:=a.out.lt;have G:=c.Xu;have H:=c.Xv;have w:=g.WE i.V1;have x:=g.WE i.V6;have k:=l (fun W e=>bV d f b i.V1 c.V1 W e);have v:=l (fun W e=>bV d f b i.V6 c.V6 W e);have m:=l (fun W e=>li d f b g.V3 i c W e);have t:Hid (E (h.alloc (az i)) d f b):=b7;obtain⟨B,o⟩:=y (b.x.getD i.V1 0);obtain⟨C,p⟩:=y (b.x.getD i.V6 0);simp only[<-o]at w k|-;simp only[<-p]at x v|-;obtain⟨D,q⟩:=y (de b.V3 i);simp only[<-q]at m|-;unfold az at t;unfold ag at m|-;obtain⟨K,L,M,N,u,J⟩:=i;dsimp only at *;have n:=l (e0 (u*4096));obtain⟨r,s⟩:=y (am (u*4096));simp only[<-s]at n|-;subst z;clear s;clear a g c o p q;go_enter func197,ntmps197;go_wp2_with fail;refine(k.out _ t).mono ?_;rintro A O ⟨rfl,rfl⟩;go_wp2_with(go_at_call 136;refine(n.out _).mono ?_;rintro A P ⟨rfl,rfl⟩);exact vs
def aiF (e h b)(g:af b)(i:ak)(c:aU i)(z:i.op=2)(m)(a:Hid (E m e h b)):
 aE 197 #[I e,ag i] (j (am ((b.V3:Int)+i.V2*4096):Nat)) m:=by
 have F:=a.out.lt;have D:=a.out.Xk;have G:=g.V3;have H:=c.Xu;have J:=c.Xv;have w:=g.WE i.V1;have x:=g.WE i.V6;have n:=l (fun W f=>bV e h b i.V1 c.V1 W f);have v:=l (fun W f=>bV e h b i.V6 c.V6 W f);have o:=l (fun W f=>li e h b g.V3 i c W f);have u:Hid (E (m.alloc (az i)) e h b):=b7;obtain⟨A,p⟩:=y (b.x.getD i.V1 0);obtain⟨B,q⟩:=y (b.x.getD i.V6 0);simp only[<-p]at w n|-;simp only[<-q]at x v|-;obtain⟨C,s⟩:=y (de b.V3 i);simp only[<-s]at o|-;unfold az at u;unfold ag at o|-;obtain⟨M,N,O,P,d,K⟩:=i;dsimp only at *;have k:=l (e0 ((b.V3:Int)+d*4096));have wr:IntKind.i64.wrap (d*4096)=d*4096:=dG;have R:IntKind.i64.wrap ((b.V3:Int)+d*4096)=(b.V3:Int)+d*4096:=dG;obtain⟨r,t⟩:=y (am ((b.V3:Int)+d*4096));simp only[<-t]at k|-;subst z;clear t;clear a g c p q s;go_enter func197,ntmps197;go_wp2_with fail;refine(n.out _ u).mono ?_;rintro L Q ⟨rfl,rfl⟩;go_upto_region 5 with fail;exact J6
def aiH (d f c)(k:af c)(i:ak)(e:aU i)(r:i.op=3)(g)(a:Hid (E g d f c)):
 aE 197 #[I d,ag i] (j (de c.V3 i:Nat)) g:=J9
def aiI (d f c)(k:af c)(i:ak)(e:aU i)(r:i.op=4)(g)(a:Hid (E g d f c)):
 aE 197 #[I d,ag i] (j (de c.V3 i:Nat)) g:=J9
def aiG (e k b)(m:af b)(i:ak)(d:aU i)(p:19<=i.op/\i.op<=27)(q)(a:Hid (E q e k b)):
 aE 197 #[I e,ag i] (j (cp i.op (b.x.getD i.V1 0) (am i.V2):Nat)) q:=by
 have P:=a.out.lt;have Q:=d.Xu;have R:=d.Xv;have w:=m.WE i.V1;have J:=m.WE i.V6;have s:=l (fun W g=>bV e k b i.V1 d.V1 W g);have H:=l (fun W g=>bV e k b i.V6 d.V6 W g);have t:=l (fun W g=>li e k b m.V3 i d W g);have D:Hid (E (q.alloc (az i)) e k b):=b7;obtain⟨o,x⟩:=y (b.x.getD i.V1 0);obtain⟨L,z⟩:=y (b.x.getD i.V6 0);simp only[<-x]at w s|-;simp only[<-z]at J H|-;obtain⟨N,A⟩:=y (de b.V3 i);simp only[<-A]at t|-;unfold az at D;unfold ag at t|-;obtain⟨c,aa,ab,ac,h,S⟩:=i;dsimp only at *;have v:=l (e0 h);have F:G (am h):=vf;have n:=OX c p.1 p.2 o (am h);have u:=l (aiB c);have f:=l (Fx (ll c) n.2.1 n.2.2 o (am h) w F);simp only[n.1]at f;obtain⟨K,hu⟩:=y (am h);simp only[<-hu]at v f|-;obtain⟨O,B⟩:=y (ll c);simp only[<-B]at u f;obtain⟨r,C⟩:=y (cp c o K);simp only[<-C]at f|-;have U:(c==1)=false:=M;have V:(c==2)=false:=M;have Y:(c==3)=false:=M;have Z:(c==4)=false:=M;have X:decide (c<=27)=true:=M;clear C B hu n F p;clear a m d x z A;go_enter func197,ntmps197;go_wp2_with fail;refine(s.out _ D).mono ?_;rintro T ad ⟨rfl,rfl⟩;go_upto_region 9 with fail;go_quiet ((first|(go_at_call 136;exact br (v.out _))|(go_at_call 266;exact br (u.out _))|(go_at_call 265;exact br (f.out _))));exact py
def aiL (e h b)(m:af b)(i:ak)(d:aU i)(n:28<=i.op/\i.op<=37)(o)(a:Hid (E o e h b)):
 aE 197 #[I e,ag i] (j (cp i.op (b.x.getD i.V1 0) (b.x.getD i.V6 0):Nat)) o:=by
 have D:=a.out.lt;have F:=d.Xu;have G:=d.Xv;have v:=m.WE i.V1;have x:=m.WE i.V6;have p:=l (fun W f=>bV e h b i.V1 d.V1 W f);have k:=l (fun W f=>bV e h b i.V6 d.V6 W f);have q:=l (fun W f=>li e h b m.V3 i d W f);have g:Hid (E (o.alloc (az i)) e h b):=b7;obtain⟨t,w⟩:=y (b.x.getD i.V1 0);obtain⟨u,z⟩:=y (b.x.getD i.V6 0);simp only[<-w]at v p|-;simp only[<-z]at x k|-;obtain⟨C,A⟩:=y (de b.V3 i);simp only[<-A]at q|-;unfold az at g;unfold ag at q|-;obtain⟨c,S,T,U,H,J⟩:=i;dsimp only at *;have s:=l (Fx c n.1 n.2 t u v x);obtain⟨r,B⟩:=y (cp c t u);simp only[<-B]at s|-;have L:(c==1)=false:=M;have N:(c==2)=false:=M;have P:(c==3)=false:=M;have R:(c==4)=false:=M;have O:decide (c<=27)=false:=M;have Q:decide (c<=37)=true:=M;clear B n;clear a m d w z A;go_enter func197,ntmps197;go_wp2_with fail;refine(p.out _ g).mono ?_;rintro K V ⟨rfl,rfl⟩;go_upto_region 11 with fail;go_quiet ((first|(go_at_call 40;first|exact br (k.out _ g)|exact br (k.out _ (l (g.out.drewN _)))|exact br (k.out _ (l g.out.drew)))|(go_at_call 265;exact br (s.out _))));exact py
def aiK (e h b)(m:af b)(i:ak)(d:aU i)(n:42<=i.op/\i.op<=49)(o)(a:Hid (E o e h b)):
 aE 197 #[I e,ag i] (j (cp i.op (b.x.getD i.V1 0) (b.x.getD i.V6 0):Nat)) o:=by
 have D:=a.out.lt;have F:=d.Xu;have G:=d.Xv;have v:=m.WE i.V1;have x:=m.WE i.V6;have p:=l (fun W f=>bV e h b i.V1 d.V1 W f);have k:=l (fun W f=>bV e h b i.V6 d.V6 W f);have q:=l (fun W f=>li e h b m.V3 i d W f);have g:Hid (E (o.alloc (az i)) e h b):=b7;obtain⟨t,w⟩:=y (b.x.getD i.V1 0);obtain⟨u,z⟩:=y (b.x.getD i.V6 0);simp only[<-w]at v p|-;simp only[<-z]at x k|-;obtain⟨C,A⟩:=y (de b.V3 i);simp only[<-A]at q|-;unfold az at g;unfold ag at q|-;obtain⟨c,S,T,U,H,J⟩:=i;dsimp only at *;have s:=l (ahn c n.1 n.2 t u v x);obtain⟨r,B⟩:=y (cp c t u);simp only[<-B]at s|-;have L:(c==1)=false:=M;have N:(c==2)=false:=M;have P:(c==3)=false:=M;have R:(c==4)=false:=M;have O:decide (c<=27)=false:=M;have Q:decide (c<=37)=false:=M;clear B n;clear a m d w z A;go_enter func197,ntmps197;go_wp2_with fail;refine(p.out _ g).mono ?_;rintro K V ⟨rfl,rfl⟩;go_upto_region 12 with fail;go_quiet ((first|(go_at_call 40;first|exact br (k.out _ g)|exact br (k.out _ (l (g.out.drewN _)))|exact br (k.out _ (l g.out.drew)))|(go_at_call 267;exact br (s.out _))));exact py
def aiE (b d a)(e:af a)(i:ak)(f:aU i)(p:bv i.op=true)(c)(g:Hid (E c b d a)):
 aE 197 #[I b,ag i] (j (dp a i)) c:=by
 unfold bv at p;simp only[cC]at p;unfold dp;by_cases h:i.op=1
 . rw[B h];exact aiJ b d a e i f h c g
 rw[z h];by_cases k:i.op=2
 . rw[B k];exact aiF b d a e i f k c g
 rw[z k];by_cases l:i.op=3
 . rw[B (.inl l)];exact aiH b d a e i f l c g
 by_cases n:i.op=4
 . rw[B (.inr n)];exact aiI b d a e i f n c g
 rw[z (by omega)];by_cases o:i.op<=27
 . rw[B o];exact aiG b d a e i f m c g
 rw[z o];by_cases q:i.op<=37
 . exact aiL b d a e i f m c g
 . exact aiK b d a e i f m c g
def QR (b a:Nat):cu b a=ab b a:=rfl
def qb (a:N)(b:Nat):Bool:=if a.mode=3 then true else if a.mode=1 then ab a.c.Wp (b%32)else ab (a.c.Wp&&&a.c.WA) (b%32)
def ahk (q x a)(e:af a)(b:Nat)(r)(f:Hid (E r q x a)):
 aE 279 #[I q,j b] (.bool (qb a b)) r:=by
 have s:=f.out.Xl;have B:=f.out.Y3;have C:=f.out.Y8;have u:=e.Wp;have v:=e.WA;have g:(a.c.Wp&&&a.c.WA)<4294967296:=G9;have w:=bm a.c.Wp a.c.WA m m;have t:(b:Int)%32=((b%32:Nat):Int):=J;have d:=l (tH a.c.Wp (b%32) m);have c:=l (tH (a.c.Wp&&&a.c.WA) (b%32) g);simp only[QR]at d c;unfold qb;obtain⟨p,k⟩:=y (b%32);simp only[<-k]at t d c|-;obtain⟨z,h⟩:=y (ab a.c.Wp p);obtain⟨A,i⟩:=y (ab (a.c.Wp&&&a.c.WA) p);simp only[<-h,<-i]at d c|-;obtain⟨G,hu⟩:=y (a.c.Wp&&&a.c.WA);rw[<-hu]at w c;have o:=e.mode;obtain⟨D,n⟩:=y (a.mode);rw[<-n]at s o|-;clear k h i hu n e g u v;rcases o with rfl|rfl|rfl
 . go_enter func279,ntmps279;go_upto_region 6 with fail;go_quiet ((go_at_call 188;exact br (c.out _)));exact Kp
 . go_enter func279,ntmps279;go_wp2_with(go_at_call 188;refine(d.out _).mono ?_;rintro F H ⟨rfl,rfl⟩);exact Kq
 . go_enter func279,ntmps279;exact Kr
def iw (a:N)(b:Int):Bool:=if a.mode=3 then true else if a.mode=1 then(!decide (b=67)&&!ab a.c.V5 (if b=68 then 22 else if b=69 then 21 else 20))else false
def Fr (r A d)(i:af d)(a:Int)(s)(q:Hid (E s r A d)):
 aE 205 #[I r,j a] (.bool (iw d a)) s:=by
 have t:=q.out.Xl;have u:=q.out.Xm;have w:=i.V5;have o:=i.mode;unfold iw;obtain⟨F,n⟩:=y (d.mode);rw[<-n]at t o|-;obtain⟨b,p⟩:=y (d.c.V5);rw[<-p]at u w|-;have h:=l (ag1 a);have x:∃e:Nat,(e:Int)=qX a/\e<4294967296/\(bits .and .i64 (b:Int) (e:Int)==0)=!ab b (if a=68 then 22 else if a=69 then 21 else 20):=by
  unfold qX;by_cases c:a=68
  . refine⟨4194304,by simp[c],by decide,?_⟩;rw[bm b 4194304 (by omega) (by omega),eV,B c];exact dj b 22
  . by_cases f:a=69
    . refine⟨2097152,by simp[c,f],by decide,?_⟩;rw[bm b 2097152 (by omega) (by omega),eV,z c,B f];exact dj b 21
    . refine⟨1048576,by simp[c,f],by decide,?_⟩;rw[bm b 1048576 (by omega) (by omega),eV,z c,z f];exact dj b 20
 obtain⟨e,m,D,v⟩:=x;simp only[<-m]at h;obtain⟨C,k⟩:=y (ab b (if a=68 then 22 else if a=69 then 21 else 20));rw[<-k]at v|-;clear n p k m i;rcases o with rfl|rfl|rfl
 . exact Ks
 . by_cases g:a=67
   . subst g;go_enter func205,ntmps205;go_upto_region 5 with fail;go_quiet ((go_at_call 282;exact br (h.out _)));exact Kp
   . have G:(a !=67)=true:=by simp[g]
     rw[show decide (a=67)=false by simp[g]];clear g;go_enter func205,ntmps205;go_upto_region 5 with fail;go_quiet ((go_at_call 282;exact br (h.out _)));go_wp2_with fail;go_ret;exact⟨by simp,(Kept.refl _ _).drewN _⟩
 . exact Ks
end
def l4 (a:L)(b:List L):Nat:=if C.ao (· ==a) b=0 then 0 else if C.ao (· ==a) b=3 then 15 else 2^C.ao (· ==a) b-1
def tb (a:K)(b:L)(W:Nat):aM a b W<=l4 b (C.ah a.data.toList a.size):=by
 have c:=C.mG (· ==b) (C.ah a.data.toList a.size) W;unfold aM l4;exact KL
def qn (a:Int×K×Int):Bool:=
 let b:=C.ah a.2.1.data.toList a.2.1.size
 decide (0<=dB a.2.2)&& (decide ((l4 68 b:Int)+l4 66 b+dB a.2.2<=31)&& (decide (0<=dC a.2.2)&& (decide ((l4 83 b:Int)+l4 66 b+dC a.2.2<=31)&& (decide (l4 84 b<=31)&& (decide (C.eX b<2147483648)&& (decide (C.high b<2147483648)&& (decide (a.2.1.size=32) ||decide (a.2.1.size=16))))))))
def SS :((List.range 71).all fun a=>a==0 ||qn (ae.longRow a))=true:=by decide+kernel
def Vv :((List.range 27).all fun a=>a==0 ||qn (ae.aZ a))=true:=by decide+kernel
def RI (a:K)(b:Bool)(W:Nat)(c:C.eX (C.ah a.data.toList a.size)<2147483648)(d:C.high (C.ah a.data.toList a.size)<2147483648):-4294967296<=da a b W/\da a b W<4294967296:=KN
def eY (i:U):ak:=⟨i.op,i.rd.toNat,i.V1.toNat,i.V6.toNat,i.V2,i.V4.toNat⟩
def sb (i:U):Prop:=aU (eY i)/\aW i=ag (eY i)
def Cg (i:U)(b:0<=i.rd)(h:i.rd<32)(c:0<=i.V1)(j:i.V1<32)(d:0<=i.V6)(c1:i.V6<32)(d0:-4294967296<=i.V2)(d1:G i.V2)(k:i.V4=2\/i.V4=4):sb i:=by
 obtain⟨m,e,f,g,l,a⟩:=i;dsimp only at *;refine⟨⟨?_,?_,?_,d0,d1,?_⟩,?_⟩
 . show e.toNat<32;omega
 . show f.toNat<32;omega
 . show g.toNat<32;omega
 . show a.toNat=2\/a.toNat=4;omega
 . unfold aW ag eY;dsimp only;rw[oG b,oG c,oG d,oG (by omega)]
def U1 (a:Int×K×Int)(b:qn a=true)(W:Nat):sb (bK a W):=by
 unfold qn at b;simp only[cX,cR,cC]at b;obtain⟨f,g,h,i,j,d,e,k⟩:=b;have l:=tb a.2.1 68 W;have m:=tb a.2.1 66 W;have n:=tb a.2.1 83 W;have o:=tb a.2.1 84 W;have c:=RI a.2.1 (hasB a.2.2 1) W d e;unfold bK;refine Cg _ ?_ ?_ ?_ ?_ ?_ ?_ c.1 c.2 ?_<;>dsimp only<;>omega
theorem Dt (d:Nat->Option U)(f:U->Prop):∀(e b:Nat),(∀c,b<=c->c<b+e->∀i,d c=some i->f i)->∀i,scan d b e=some i->f i
 |0,b,g,i,a=>by simp[scan]at a
 |e+1,b,g,i,a=>by
  rw[k4]at a
  cases h:d b with
  |some l=>
   rw[h]at a
   simp only[b6]at a
   exact g b (aB _) (by omega) i (by rw[h,a])
  |none=>
   rw[h]at a
   exact Dt d f e (b+1) (fun c j k=>g c (by omega) (by omega)) i a
def Dr {f:Nat->Bool}{c:Nat}(b:((List.range c).all fun a=>a==0 ||f a)=true)(a:Nat)(g:1<=a)(e:a<c):f a=true:=by
 have b:=cj.1 b a (List.mem_range.2 e);have d:(a==0)=false:=M;rw[d,ul]at b;exact b
def VC (c:Int)(a:¬sizeOf c=0):sizeOf c=2\/sizeOf c=4:=by
 unfold sizeOf at a|-;split at a
 . exact absurd rfl a
 . next d=>
   rw[z d];split at a
   . next b=>rw[B b];exact .inr rfl
   . next b=>
     rw[z b];split at a
     . next e=>rw[B e];exact .inl rfl
     . exact absurd rfl a
theorem wh (e:U->Prop)(c:Int×K×Int->Bool)(t:((List.range 71).all fun a=>a==0 ||c (ae.longRow a))=true)(u:((List.range 27).all fun a=>a==0 ||c (ae.aZ a))=true)(s:∀p,c p=true->∀W,e (bK p W))(q:∀k,k=2\/k=4->e ⟨0,0,0,0,0,k⟩)(b:Int)(j:(aP b).2=0):e (aP b).1:=by
 unfold aP at j|-;by_cases g:sizeOf b=0
 . rw[B g]at j;exact absurd j R
 rw[z g];have l:=VC b g;cases r:scan (cK (sizeOf b) b.toNat) 1 (bY (sizeOf b)).toNat with
 |none=>exact q _ l
 |some i=>
  refine Dt _ e _ _ (fun n o f v d=>?_) i r;unfold cK at d;split at d
  . simp only[b6]at d;rw[<-d];refine s _ ?_ _;rcases l with h|h
    . rw[h]at f|-;rw[show(bY 2).toNat=26 from rfl]at f;exact Dr (f:=fun a=>c (ae.aZ a)) u n o m
    . rw[h]at f|-;rw[show(bY 4).toNat=70 from rfl]at f;exact Dr (f:=fun a=>c (ae.longRow a)) t n o m
  . cases d
def nB (a:Int)(b:(aP a).2=0):sb (aP a).1:=
 wh sb qn SS Vv U1 (fun d c=>Cg _ (ju 0) (show(0:Int)<32 by decide) (ju 0) (show(0:Int)<32 by decide) (ju 0) (show(0:Int)<32 by decide) (show(-4294967296:Int)<=0 by decide) (show(0:Int)<4294967296 by decide) c) a b
def qo (a:Int×K×Int):Bool:=
 decide (1<=a.1)&& (decide (a.1<=70)&& (!(decide (61<=a.1)&&decide (a.1<=66)) ||(decide (C.eX (C.ah a.2.1.data.toList a.2.1.size)<=4095)&&!hasB a.2.2 1)))
def SU :((List.range 71).all fun a=>a==0 ||qo (ae.longRow a))=true:=by decide+kernel
def Vx :((List.range 27).all fun a=>a==0 ||qo (ae.aZ a))=true:=by decide+kernel
def RK (a:K)(W:Nat)(d:C.eX (C.ah a.data.toList a.size)<=4095):0<=da a false W/\da a false W<=4095:=by
 have c:=C.tk (C.ah a.data.toList a.size) W;unfold da;rw[C.p1];split
 . next b=>simp at b
 . omega
def vU (i:U):Prop:=1<=i.op/\i.op<=70/\(61<=i.op/\i.op<=66->0<=i.V2/\i.V2<=4095)
def U2 (b:Int×K×Int)(c:qo b=true)(W:Nat):vU (bK b W):=by
 unfold qo at c;simp only[cX,cR,cC,ox,Bool.and_eq_false_iff,mX]at c;obtain⟨e,f,a⟩:=c;refine⟨e,f,fun d=>?_⟩;have h:61<=b.1:=d.1;have i:b.1<=66:=d.2;rcases a with a|⟨a,g⟩
 . rcases a with a|a<;>omega
 . have:=RK b.2.1 W a;unfold bK;dsimp only;rw[g];exact this
def wj (a:Int)(b:¬(aP a).1.op=0):vU (aP a).1/\(aP a).2=0:=by
 have d:(aP a).2=0:=by
  unfold aP at b|-;split
  . next c=>rw[B c]at b;exact absurd rfl b
  . split<;>rfl
 exact⟨wh (fun i=>¬i.op=0->vU i) qo SU Vx (fun f e W _=>U2 f e W) (fun g _ c=>absurd rfl c) a d b,d⟩
end Go.Proofs.YtmlgonbhoknoiaaGreatDoor
