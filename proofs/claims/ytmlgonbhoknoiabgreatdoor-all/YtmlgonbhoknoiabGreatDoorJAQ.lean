import Derived.Test.YtmlgonbhoknoiabGreatDoorJAO
set_option maxHeartbeats 8000000
set_option maxRecDepth 100000
set_option linter.all false
namespace Go.Proofs.YtmlgonbhoknoiabGreatDoor
open Go.RowKit Go.Proofs.Tryz
section
attribute [local go_sem ↓] Go.wp_at_zero Go.wp_at_succ
theorem Kept.drewN {b:List Nat}{c d:D}(a:Kept b c d)(e:Nat):Kept b c (d.drewN e):=⟨a.os,a.tape,a.output,a.size,a.block⟩
theorem E.drewN {a c e b}(f:E a c e b)(d:Nat):E (a.drewN d) c e b:=f.kept ((Kept.refl [] a).drewN d)
structure ak where
 op:Int
 rd:Nat
 V1:Nat
 V6:Nat
 V2:Int
 V4:Nat
def ag (i:ak):Value:=.agg #[j i.op,j i.rd,j i.V1,j i.V6,j i.V2,j i.V4]
def az (i:ak):Obj:=.cells #[j i.op,j i.rd,j i.V1,j i.V6,j i.V2,j i.V4] 60
structure aT (i:ak):Prop where
 rd:i.rd<32
 V1:i.V1<32
 V6:i.V6<32
 Xu:-4294967296<=i.V2
 Xv:i.V2<4294967296
 V4:i.V4=2\/i.V4=4
def cT (i:ak):Bool:=decide (i.op=61\/i.op=64\/i.V1≠0)
def j8 (i:ak)(j:D):
 Calls prog 134 #[ag i] j fun n k=>n=.returned (.bool (cT i))/\k=j.alloc (az i):=by
 obtain⟨b,o,f,p,l,m⟩:=i;obtain⟨h,a⟩:=y (cT ⟨b,o,f,p,l,m⟩);rw[<-a];unfold cT at a;dsimp only at a;unfold ag az;by_cases d:b=61
 . subst d;exact Ka
 have r:(b==61)=false:=i3;by_cases c:b=64
 . subst c;exact Ka
 have s:(b==64)=false:=eT;by_cases g:f=0
 . subst g;have e:Hid (h=false):=by rw[a];show _=_;simp[d,c]
   clear a d c;exact Ar
 . have e:Hid (h=true):=by rw[a];show _=_;simp[g]
   have t:((f:Int) !=0)=true:=M;have q:(f !=0)=true:=M;clear a d c g;exact Ar
def cL (i:ak):Int:=if 61<=i.op/\i.op<=66/\cT i=true then(if i.V2=2816\/i.V2=2944 then 1 else if i.V2=2818\/i.V2=2946 then 4 else 0)else 0
def FE (i:ak)(q:D):
 aE 84 #[ag i] (j (cL i)) q:=by
 have g:=fun W=>l (j8 i W);obtain⟨h,b⟩:=y (cL i);rw[<-b];unfold cL at b;obtain⟨n,m⟩:=y (cT i);simp only[<-m]at g b;clear m;unfold ag az at g;unfold ag;obtain⟨e,v,w,x,k,s⟩:=i;dsimp only at g b|-;have a:=l b;clear b;by_cases d:e<61
 . have p:decide (e<61)=true:=i3;have f:Hid (h=0):=Ha;clear a d;exact Kb
 have t:decide (e<61)=false:=M;by_cases c:66<e
 . have p:decide (66<e)=true:=eT;have f:Hid (h=0):=Ha;clear a d c;exact Kb
 have u:decide (66<e)=false:=M;cases n
 . have f:Hid (h=0):=by rw[a.out];show _=_;rw[z (by simp)]
   clear a d c;go_enter func84,ntmps84;go_wp2_with(go_at_call 134;refine(g _).out.mono ?_;rintro o r ⟨rfl,rfl⟩);go_ret;exact⟨eM (by rw[f.out]),((Kept.refl _ _).alloc _).alloc _⟩
 . have f:Hid (h=(if k=2816\/k=2944 then 1 else if k=2818\/k=2946 then 4 else 0)):=by rw[a.out];show _=_;rw[B ⟨by omega,by omega,rfl⟩]
   clear a d c;go_enter func84,ntmps84;go_wp2_with(go_at_call 134;refine(g _).out.mono ?_;rintro o r ⟨rfl,rfl⟩);all_goals (go_ret;refine⟨eM ?_,((Kept.refl _ _).alloc _).alloc _⟩;rw[f.out];simp_all)
def db (a:Nat)(i:ak):Nat:=(a+i.V4)%4294967296
def lh (d m:Nat)(a:N)(q:G a.V3)(i:ak)(f:aT i)(e)(c:Hid (E e d m a)):
 aE 194 #[I d,ag i] (j (db a.V3 i)) e:=by
 have p:=c.out.lt;have n:¬d=e.heap.size:=J;have o:=c.out.Xk;have k:=f.V4;have b:∀W,O 135 #[j ((a.V3:Int)+(i.V4:Int))] (j (db a.V3 i)) W:=fun W=>by have:=e0 ((a.V3:Int)+(i.V4:Int)) W;rw[show am ((a.V3:Int)+(i.V4:Int))=db a.V3 i by unfold am db;omega]at this;exact this
 have wr:IntKind.i64.wrap ((a.V3:Int)+(i.V4:Int))=(a.V3:Int)+(i.V4:Int):=dE;obtain⟨r,g⟩:=y (db a.V3 i);simp only[<-g]at b|-;have h:=l b;unfold ag;clear g b f k c;go_enter func194,ntmps194;go_upto_region 1 with fail;go_quiet ((go_at_call 135;exact bq (h.out _)));exact pO
def Fz (e g:Nat)(b:N)(s:∀i,b.x.getD i 0<4294967296)(i:ak)(k:aT i)(r:5<=i.op/\i.op<=10)(m)(a:Hid (E m e g b)):
 aE 193 #[I e,ag i] (.bool (holds i.op (b.x.getD i.V1 0) (b.x.getD i.V6 0))) m:=by
 have f:Hid (E (m.alloc (az i)) e g b):=b6;have n:=s i.V1;have p:=s i.V6;have h:=l (fun W d=>bU e g b i.V1 k.V1 W d);have j:=l (fun W d=>bU e g b i.V6 k.V6 W d);obtain⟨t,o⟩:=y (b.x.getD i.V1 0);obtain⟨u,q⟩:=y (b.x.getD i.V6 0);simp only[<-o]at n h|-;simp only[<-q]at p j|-;unfold az at f;unfold ag;obtain⟨c,C,D,F,A,B⟩:=i;dsimp only at r f h j|-;clear o q k a;have d:c=5\/c=6\/c=7\/c=8\/c=9\/c=10:=J;have x:=l (ui t n);have z:=l (ui u p);clear r;rcases d with rfl|rfl|rfl|rfl|rfl|rfl;all_goals
  go_enter func193,ntmps193;go_wp2_with fail;refine(h.out _ f).mono ?_;rintro v w ⟨rfl,rfl⟩;go_wp2_with fail;refine(j.out _ f).mono ?_;rintro v w ⟨rfl,rfl⟩;go_wp2_with fail
 . exact Kc
 . exact Kc
 . exact Kd
 . exact Kd
 . exact As
 . exact As
def dm (a:N)(i:ak):Nat:=
 if i.op=1 then am (i.V2*4096)else if i.op=2 then am ((a.V3:Int)+i.V2*4096)else if i.op=3\/i.op=4 then db a.V3 i
 else if i.op<=27 then co i.op (a.x.getD i.V1 0) (am i.V2)else co i.op (a.x.getD i.V1 0) (a.x.getD i.V6 0)
def ah4 (d f b)(g:af b)(i:ak)(c:aT i)(z:i.op=1)(h)(a:Hid (E h d f b)):
 aE 196 #[I d,ag i] (j (am (i.V2*4096):Nat)) h:=by
 have F:=a.out.lt;have G:=c.Xu;have H:=c.Xv;have w:=g.WE i.V1;have x:=g.WE i.V6;have k:=l (fun W e=>bU d f b i.V1 c.V1 W e);have v:=l (fun W e=>bU d f b i.V6 c.V6 W e);have m:=l (fun W e=>lh d f b g.V3 i c W e);have t:Hid (E (h.alloc (az i)) d f b):=b6;obtain⟨B,o⟩:=y (b.x.getD i.V1 0);obtain⟨C,p⟩:=y (b.x.getD i.V6 0);simp only[<-o]at w k|-;simp only[<-p]at x v|-;obtain⟨D,q⟩:=y (db b.V3 i);simp only[<-q]at m|-;unfold az at t;unfold ag at m|-;obtain⟨K,L,M,N,u,J⟩:=i;dsimp only at *;have n:=l (e0 (u*4096));obtain⟨r,s⟩:=y (am (u*4096));simp only[<-s]at n|-;subst z;clear s;clear a g c o p q;go_enter oV,oW;go_wp2_with fail;refine(k.out _ t).mono ?_;rintro A O ⟨rfl,rfl⟩;go_wp2_with(go_at_call 135;refine(n.out _).mono ?_;rintro A P ⟨rfl,rfl⟩);exact vO
def ah0 (e h b)(g:af b)(i:ak)(c:aT i)(z:i.op=2)(m)(a:Hid (E m e h b)):
 aE 196 #[I e,ag i] (j (am ((b.V3:Int)+i.V2*4096):Nat)) m:=by
 have F:=a.out.lt;have D:=a.out.Xk;have G:=g.V3;have H:=c.Xu;have J:=c.Xv;have w:=g.WE i.V1;have x:=g.WE i.V6;have n:=l (fun W f=>bU e h b i.V1 c.V1 W f);have v:=l (fun W f=>bU e h b i.V6 c.V6 W f);have o:=l (fun W f=>lh e h b g.V3 i c W f);have u:Hid (E (m.alloc (az i)) e h b):=b6;obtain⟨A,p⟩:=y (b.x.getD i.V1 0);obtain⟨B,q⟩:=y (b.x.getD i.V6 0);simp only[<-p]at w n|-;simp only[<-q]at x v|-;obtain⟨C,s⟩:=y (db b.V3 i);simp only[<-s]at o|-;unfold az at u;unfold ag at o|-;obtain⟨M,N,O,P,d,K⟩:=i;dsimp only at *;have k:=l (e0 ((b.V3:Int)+d*4096));have wr:IntKind.i64.wrap (d*4096)=d*4096:=dE;have R:IntKind.i64.wrap ((b.V3:Int)+d*4096)=(b.V3:Int)+d*4096:=dE;obtain⟨r,t⟩:=y (am ((b.V3:Int)+d*4096));simp only[<-t]at k|-;subst z;clear t;clear a g c p q s;go_enter oV,oW;go_wp2_with fail;refine(n.out _ u).mono ?_;rintro L Q ⟨rfl,rfl⟩;go_upto_region 5 with fail;exact Kp
def ah2 (d f c)(k:af c)(i:ak)(e:aT i)(r:i.op=3)(g)(a:Hid (E g d f c)):
 aE 196 #[I d,ag i] (j (db c.V3 i:Nat)) g:=Kt
def ah3 (d f c)(k:af c)(i:ak)(e:aT i)(r:i.op=4)(g)(a:Hid (E g d f c)):
 aE 196 #[I d,ag i] (j (db c.V3 i:Nat)) g:=Kt
def ah1 (e k b)(m:af b)(i:ak)(d:aT i)(p:19<=i.op/\i.op<=27)(q)(a:Hid (E q e k b)):
 aE 196 #[I e,ag i] (j (co i.op (b.x.getD i.V1 0) (am i.V2):Nat)) q:=by
 have P:=a.out.lt;have Q:=d.Xu;have R:=d.Xv;have w:=m.WE i.V1;have J:=m.WE i.V6;have s:=l (fun W g=>bU e k b i.V1 d.V1 W g);have H:=l (fun W g=>bU e k b i.V6 d.V6 W g);have t:=l (fun W g=>lh e k b m.V3 i d W g);have D:Hid (E (q.alloc (az i)) e k b):=b6;obtain⟨o,x⟩:=y (b.x.getD i.V1 0);obtain⟨L,z⟩:=y (b.x.getD i.V6 0);simp only[<-x]at w s|-;simp only[<-z]at J H|-;obtain⟨N,A⟩:=y (db b.V3 i);simp only[<-A]at t|-;unfold az at D;unfold ag at t|-;obtain⟨c,aa,ab,ac,h,S⟩:=i;dsimp only at *;have v:=l (e0 h);have F:G (am h):=vB;have n:=Ps c p.1 p.2 o (am h);have u:=l (ahW c);have f:=l (FR (lk c) n.2.1 n.2.2 o (am h) w F);simp only[n.1]at f;obtain⟨K,hu⟩:=y (am h);simp only[<-hu]at v f|-;obtain⟨O,B⟩:=y (lk c);simp only[<-B]at u f;obtain⟨r,C⟩:=y (co c o K);simp only[<-C]at f|-;have U:(c==1)=false:=M;have V:(c==2)=false:=M;have Y:(c==3)=false:=M;have Z:(c==4)=false:=M;have X:decide (c<=27)=true:=M;clear C B hu n F p;clear a m d x z A;go_enter oV,oW;go_wp2_with fail;refine(s.out _ D).mono ?_;rintro T ad ⟨rfl,rfl⟩;go_upto_region 9 with fail;go_quiet ((first|(go_at_call 135;exact bq (v.out _))|(go_at_call 265;exact bq (u.out _))|(go_at_call 264;exact bq (f.out _))));exact pO
def ah6 (e h b)(m:af b)(i:ak)(d:aT i)(n:28<=i.op/\i.op<=37)(o)(a:Hid (E o e h b)):
 aE 196 #[I e,ag i] (j (co i.op (b.x.getD i.V1 0) (b.x.getD i.V6 0):Nat)) o:=by
 have D:=a.out.lt;have F:=d.Xu;have G:=d.Xv;have v:=m.WE i.V1;have x:=m.WE i.V6;have p:=l (fun W f=>bU e h b i.V1 d.V1 W f);have k:=l (fun W f=>bU e h b i.V6 d.V6 W f);have q:=l (fun W f=>lh e h b m.V3 i d W f);have g:Hid (E (o.alloc (az i)) e h b):=b6;obtain⟨t,w⟩:=y (b.x.getD i.V1 0);obtain⟨u,z⟩:=y (b.x.getD i.V6 0);simp only[<-w]at v p|-;simp only[<-z]at x k|-;obtain⟨C,A⟩:=y (db b.V3 i);simp only[<-A]at q|-;unfold az at g;unfold ag at q|-;obtain⟨c,S,T,U,H,J⟩:=i;dsimp only at *;have s:=l (FR c n.1 n.2 t u v x);obtain⟨r,B⟩:=y (co c t u);simp only[<-B]at s|-;have L:(c==1)=false:=M;have N:(c==2)=false:=M;have P:(c==3)=false:=M;have R:(c==4)=false:=M;have O:decide (c<=27)=false:=M;have Q:decide (c<=37)=true:=M;clear B n;clear a m d w z A;go_enter oV,oW;go_wp2_with fail;refine(p.out _ g).mono ?_;rintro K V ⟨rfl,rfl⟩;go_upto_region 11 with fail;go_quiet ((first|(go_at_call 39;first|exact bq (k.out _ g)|exact bq (k.out _ (l (g.out.drewN _)))|exact bq (k.out _ (l g.out.drew)))|(go_at_call 264;exact bq (s.out _))));exact pO
def ah5 (e h b)(m:af b)(i:ak)(d:aT i)(n:42<=i.op/\i.op<=49)(o)(a:Hid (E o e h b)):
 aE 196 #[I e,ag i] (j (co i.op (b.x.getD i.V1 0) (b.x.getD i.V6 0):Nat)) o:=by
 have D:=a.out.lt;have F:=d.Xu;have G:=d.Xv;have v:=m.WE i.V1;have x:=m.WE i.V6;have p:=l (fun W f=>bU e h b i.V1 d.V1 W f);have k:=l (fun W f=>bU e h b i.V6 d.V6 W f);have q:=l (fun W f=>lh e h b m.V3 i d W f);have g:Hid (E (o.alloc (az i)) e h b):=b6;obtain⟨t,w⟩:=y (b.x.getD i.V1 0);obtain⟨u,z⟩:=y (b.x.getD i.V6 0);simp only[<-w]at v p|-;simp only[<-z]at x k|-;obtain⟨C,A⟩:=y (db b.V3 i);simp only[<-A]at q|-;unfold az at g;unfold ag at q|-;obtain⟨c,S,T,U,H,J⟩:=i;dsimp only at *;have s:=l (agJ c n.1 n.2 t u v x);obtain⟨r,B⟩:=y (co c t u);simp only[<-B]at s|-;have L:(c==1)=false:=M;have N:(c==2)=false:=M;have P:(c==3)=false:=M;have R:(c==4)=false:=M;have O:decide (c<=27)=false:=M;have Q:decide (c<=37)=false:=M;clear B n;clear a m d w z A;go_enter oV,oW;go_wp2_with fail;refine(p.out _ g).mono ?_;rintro K V ⟨rfl,rfl⟩;go_upto_region 12 with fail;go_quiet ((first|(go_at_call 39;first|exact bq (k.out _ g)|exact bq (k.out _ (l (g.out.drewN _)))|exact bq (k.out _ (l g.out.drew)))|(go_at_call 266;exact bq (s.out _))));exact pO
def ahZ (b d a)(e:af a)(i:ak)(f:aT i)(p:bu i.op=true)(c)(g:Hid (E c b d a)):
 aE 196 #[I b,ag i] (j (dm a i)) c:=by
 unfold bu at p;simp only[cA]at p;unfold dm;by_cases h:i.op=1
 . rw[B h];exact ah4 b d a e i f h c g
 rw[z h];by_cases k:i.op=2
 . rw[B k];exact ah0 b d a e i f k c g
 rw[z k];by_cases l:i.op=3
 . rw[B (.inl l)];exact ah2 b d a e i f l c g
 by_cases n:i.op=4
 . rw[B (.inr n)];exact ah3 b d a e i f n c g
 rw[z (by omega)];by_cases o:i.op<=27
 . rw[B o];exact ah1 b d a e i f m c g
 rw[z o];by_cases q:i.op<=37
 . exact ah6 b d a e i f m c g
 . exact ah5 b d a e i f m c g
def QX (b a:Nat):ct b a=aa b a:=rfl
def qs (a:N)(b:Nat):Bool:=if a.mode=3 then true else if a.mode=1 then aa a.c.Wp (b%32)else aa (a.c.Wp&&&a.c.WA) (b%32)
def agG (q x a)(e:af a)(b:Nat)(r)(f:Hid (E r q x a)):
 aE 278 #[I q,j b] (.bool (qs a b)) r:=by
 have s:=f.out.Xl;have B:=f.out.Y3;have C:=f.out.Y8;have u:=e.Wp;have v:=e.WA;have g:(a.c.Wp&&&a.c.WA)<4294967296:=Ht;have w:=bl a.c.Wp a.c.WA m m;have t:(b:Int)%32=((b%32:Nat):Int):=J;have d:=l (ud a.c.Wp (b%32) m);have c:=l (ud (a.c.Wp&&&a.c.WA) (b%32) g);simp only[QX]at d c;unfold qs;obtain⟨p,k⟩:=y (b%32);simp only[<-k]at t d c|-;obtain⟨z,h⟩:=y (aa a.c.Wp p);obtain⟨A,i⟩:=y (aa (a.c.Wp&&&a.c.WA) p);simp only[<-h,<-i]at d c|-;obtain⟨G,hu⟩:=y (a.c.Wp&&&a.c.WA);rw[<-hu]at w c;have o:=e.mode;obtain⟨D,n⟩:=y (a.mode);rw[<-n]at s o|-;clear k h i hu n e g u v;rcases o with rfl|rfl|rfl
 . go_enter func278,ntmps278;go_upto_region 6 with fail;go_quiet ((go_at_call 187;exact bq (c.out _)));exact KJ
 . go_enter func278,ntmps278;go_wp2_with(go_at_call 187;refine(d.out _).mono ?_;rintro F H ⟨rfl,rfl⟩);exact KK
 . go_enter func278,ntmps278;exact KL
def ix (a:N)(b:Int):Bool:=if a.mode=3 then true else if a.mode=1 then(!decide (b=67)&&!aa a.c.V5 (if b=68 then 22 else if b=69 then 21 else 20))else false
def FL (r A d)(i:af d)(a:Int)(s)(q:Hid (E s r A d)):
 aE 204 #[I r,j a] (.bool (ix d a)) s:=by
 have t:=q.out.Xl;have u:=q.out.Xm;have w:=i.V5;have o:=i.mode;unfold ix;obtain⟨F,n⟩:=y (d.mode);rw[<-n]at t o|-;obtain⟨b,p⟩:=y (d.c.V5);rw[<-p]at u w|-;have h:=l (agn a);have x:∃e:Nat,(e:Int)=rf a/\e<4294967296/\(bits .and .i64 (b:Int) (e:Int)==0)=!aa b (if a=68 then 22 else if a=69 then 21 else 20):=by
  unfold rf;by_cases c:a=68
  . refine⟨4194304,by simp[c],by decide,?_⟩;rw[bl b 4194304 (by omega) (by omega),eV,B c];exact dg b 22
  . by_cases f:a=69
    . refine⟨2097152,by simp[c,f],by decide,?_⟩;rw[bl b 2097152 (by omega) (by omega),eV,z c,B f];exact dg b 21
    . refine⟨1048576,by simp[c,f],by decide,?_⟩;rw[bl b 1048576 (by omega) (by omega),eV,z c,z f];exact dg b 20
 obtain⟨e,m,D,v⟩:=x;simp only[<-m]at h;obtain⟨C,k⟩:=y (aa b (if a=68 then 22 else if a=69 then 21 else 20));rw[<-k]at v|-;clear n p k m i;rcases o with rfl|rfl|rfl
 . exact KM
 . by_cases g:a=67
   . subst g;go_enter func204,ntmps204;go_upto_region 5 with fail;go_quiet ((go_at_call 281;exact bq (h.out _)));exact KJ
   . have G:(a !=67)=true:=by simp[g]
     rw[show decide (a=67)=false by simp[g]];clear g;go_enter func204,ntmps204;go_upto_region 5 with fail;go_quiet ((go_at_call 281;exact bq (h.out _)));go_wp2_with fail;go_ret;exact⟨by simp,(Kept.refl _ _).drewN _⟩
 . exact KM
end
def l2 (a:L)(b:List L):Nat:=if C.ao (· ==a) b=0 then 0 else if C.ao (· ==a) b=3 then 15 else 2^C.ao (· ==a) b-1
def ty (a:K)(b:L)(W:Nat):aM a b W<=l2 b (C.ah a.data.toList a.size):=by
 have c:=C.mE (· ==b) (C.ah a.data.toList a.size) W;unfold aM l2;exact K5
def qE (a:Int×K×Int):Bool:=
 let b:=C.ah a.2.1.data.toList a.2.1.size
 decide (0<=dz a.2.2)&& (decide ((l2 68 b:Int)+l2 66 b+dz a.2.2<=31)&& (decide (0<=dA a.2.2)&& (decide ((l2 83 b:Int)+l2 66 b+dA a.2.2<=31)&& (decide (l2 84 b<=31)&& (decide (C.eX b<2147483648)&& (decide (C.high b<2147483648)&& (decide (a.2.1.size=32) ||decide (a.2.1.size=16))))))))
def SM :((List.range 71).all fun a=>a==0 ||qE (ae.longRow a))=true:=by decide+kernel
def U8 :((List.range 27).all fun a=>a==0 ||qE (ae.aY a))=true:=by decide+kernel
def RF (a:K)(b:Bool)(W:Nat)(c:C.eX (C.ah a.data.toList a.size)<2147483648)(d:C.high (C.ah a.data.toList a.size)<2147483648):-4294967296<=c7 a b W/\c7 a b W<4294967296:=K6
def eY (i:U):ak:=⟨i.op,i.rd.toNat,i.V1.toNat,i.V6.toNat,i.V2,i.V4.toNat⟩
def sC (i:U):Prop:=aT (eY i)/\aV i=ag (eY i)
def CB (i:U)(b:0<=i.rd)(h:i.rd<32)(c:0<=i.V1)(j:i.V1<32)(d:0<=i.V6)(c1:i.V6<32)(d0:-4294967296<=i.V2)(d1:G i.V2)(k:i.V4=2\/i.V4=4):sC i:=by
 obtain⟨m,e,f,g,l,a⟩:=i;dsimp only at *;refine⟨⟨?_,?_,?_,d0,d1,?_⟩,?_⟩
 . show e.toNat<32;omega
 . show f.toNat<32;omega
 . show g.toNat<32;omega
 . show a.toNat=2\/a.toNat=4;omega
 . unfold aV ag eY;dsimp only;rw[oN b,oN c,oN d,oN (by omega)]
def UE (a:Int×K×Int)(b:qE a=true)(W:Nat):sC (bI a W):=by
 unfold qE at b;simp only[cU,dO,cA]at b;obtain⟨f,g,h,i,j,d,e,k⟩:=b;have l:=ty a.2.1 68 W;have m:=ty a.2.1 66 W;have n:=ty a.2.1 83 W;have o:=ty a.2.1 84 W;have c:=RF a.2.1 (hasB a.2.2 1) W d e;unfold bI;refine CB _ ?_ ?_ ?_ ?_ ?_ ?_ c.1 c.2 ?_<;>dsimp only<;>omega
theorem DN (d:Nat->Option U)(f:U->Prop):∀(e b:Nat),(∀c,b<=c->c<b+e->∀i,d c=some i->f i)->∀i,scan d b e=some i->f i
 |0,b,g,i,a=>by simp[scan]at a
 |e+1,b,g,i,a=>by
  rw[k4]at a
  cases h:d b with
  |some l=>
   rw[h]at a
   simp only[b5]at a
   exact g b (aB _) (by omega) i (by rw[h,a])
  |none=>
   rw[h]at a
   exact DN d f e (b+1) (fun c j k=>g c (by omega) (by omega)) i a
def DL {f:Nat->Bool}{c:Nat}(b:((List.range c).all fun a=>a==0 ||f a)=true)(a:Nat)(g:1<=a)(e:a<c):f a=true:=by
 have b:=cX.1 b a (List.mem_range.2 e);have d:(a==0)=false:=M;rw[d,uH]at b;exact b
def Vf (c:Int)(a:¬sizeOf c=0):sizeOf c=2\/sizeOf c=4:=by
 unfold sizeOf at a|-;split at a
 . exact absurd rfl a
 . next d=>
   rw[z d];split at a
   . next b=>rw[B b];exact .inr rfl
   . next b=>
     rw[z b];split at a
     . next e=>rw[B e];exact .inl rfl
     . exact absurd rfl a
theorem wF (e:U->Prop)(c:Int×K×Int->Bool)(t:((List.range 71).all fun a=>a==0 ||c (ae.longRow a))=true)(u:((List.range 27).all fun a=>a==0 ||c (ae.aY a))=true)(s:∀p,c p=true->∀W,e (bI p W))(q:∀k,k=2\/k=4->e ⟨0,0,0,0,0,k⟩)(b:Int)(j:(aP b).2=0):e (aP b).1:=by
 unfold aP at j|-;by_cases g:sizeOf b=0
 . rw[B g]at j;exact absurd j R
 rw[z g];have l:=Vf b g;cases r:scan (cI (sizeOf b) b.toNat) 1 (bX (sizeOf b)).toNat with
 |none=>exact q _ l
 |some i=>
  refine DN _ e _ _ (fun n o f v d=>?_) i r;unfold cI at d;split at d
  . simp only[b5]at d;rw[<-d];refine s _ ?_ _;rcases l with h|h
    . rw[h]at f|-;rw[show(bX 2).toNat=26 from rfl]at f;exact DL (f:=fun a=>c (ae.aY a)) u n o m
    . rw[h]at f|-;rw[show(bX 4).toNat=70 from rfl]at f;exact DL (f:=fun a=>c (ae.longRow a)) t n o m
  . cases d
def nF (a:Int)(b:(aP a).2=0):sC (aP a).1:=
 wF sC qE SM U8 UE (fun d c=>CB _ (jx 0) (show(0:Int)<32 by decide) (jx 0) (show(0:Int)<32 by decide) (jx 0) (show(0:Int)<32 by decide) (show(-4294967296:Int)<=0 by decide) (show(0:Int)<4294967296 by decide) c) a b
def qF (a:Int×K×Int):Bool:=
 decide (1<=a.1)&& (decide (a.1<=70)&& (!(decide (61<=a.1)&&decide (a.1<=66)) ||(decide (C.eX (C.ah a.2.1.data.toList a.2.1.size)<=4095)&&!hasB a.2.2 1)))
def SN :((List.range 71).all fun a=>a==0 ||qF (ae.longRow a))=true:=by decide+kernel
def Va :((List.range 27).all fun a=>a==0 ||qF (ae.aY a))=true:=by decide+kernel
def RH (a:K)(W:Nat)(d:C.eX (C.ah a.data.toList a.size)<=4095):0<=c7 a false W/\c7 a false W<=4095:=by
 have c:=C.tH (C.ah a.data.toList a.size) W;unfold c7;rw[C.qh];split
 . next b=>simp at b
 . omega
def wm (i:U):Prop:=1<=i.op/\i.op<=70/\(61<=i.op/\i.op<=66->0<=i.V2/\i.V2<=4095)
def UF (b:Int×K×Int)(c:qF b=true)(W:Nat):wm (bI b W):=by
 unfold qF at c;simp only[cU,dO,cA,oB,Bool.and_eq_false_iff,mV]at c;obtain⟨e,f,a⟩:=c;refine⟨e,f,fun d=>?_⟩;have h:61<=b.1:=d.1;have i:b.1<=66:=d.2;rcases a with a|⟨a,g⟩
 . rcases a with a|a<;>omega
 . have:=RH b.2.1 W a;unfold bI;dsimp only;rw[g];exact this
def wG (a:Int)(b:¬(aP a).1.op=0):wm (aP a).1/\(aP a).2=0:=by
 have d:(aP a).2=0:=by
  unfold aP at b|-;split
  . next c=>rw[B c]at b;exact absurd rfl b
  . split<;>rfl
 exact⟨wF (fun i=>¬i.op=0->wm i) qF SN Va (fun f e W _=>UF f e W) (fun g _ c=>absurd rfl c) a d b,d⟩
end Go.Proofs.YtmlgonbhoknoiabGreatDoor
