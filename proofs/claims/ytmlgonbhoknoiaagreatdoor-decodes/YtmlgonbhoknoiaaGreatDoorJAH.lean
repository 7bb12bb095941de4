import Derived.Test.YtmlgonbhoknoiaaGreatDoorJAF
set_option maxHeartbeats 8000000
set_option maxRecDepth 100000
set_option linter.all false
namespace Go.Proofs.YtmlgonbhoknoiaaGreatDoor
open Go.RowKit Go.Proofs.Tryz
def bS (b:Q)(a:P):Nat:=if(!decide (eO a=1))=true then(((b.soft+if decide (a.Wj=1)=true then 8 else 0)+if fP a=true then 128 else 0)+2048) |||512 else(b.soft+if decide (a.Wj=1)=true then 8 else 0)+if fP a=true then 128 else 0
def TU (a b:Nat)(c:G a)(d:G b):(a |||b)<4294967296:=yo (n:=32) c d
def p5 (a:Q)(b:P)(c:a.soft<=546):bS a b<4294967296:=by
 unfold bS;split
 . refine TU _ _ ?_ R;split<;>split<;>omega
 . split<;>split<;>omega
def qL (o h n:Nat)(i:Q)(d:P)(J:i.soft<=546)(H:d.enable<8)(c:D)(r:Hid (T c o h i))(k:Hid (ap c h n d)):
 aa 324 #[I o] (j (bS i d)) c:=by
 have s:=l (acD h n d c k);have t:=l (acE h n d c k);have u:=l (fun v (G:Below c.heap.size c v)=>aco h n d H v (l (k.out.more (Below.kept G []) F F)));have K:=r.out.V8;have E:=r.out.X5;obtain⟨e,a⟩:=y (bS i d);rw[<-a];unfold bS at a;obtain⟨A,q⟩:=y (decide (d.Wj=1));obtain⟨B,w⟩:=y (fP d);obtain⟨C,x⟩:=y (!decide (eO d=1));rw[<-q]at s a;rw[<-w]at t a;rw[<-x]at u a;obtain⟨b,z⟩:=y (i.soft);rw[<-z]at J E a;clear q w x z k;have L:Hid (∀g:Int,0<=g->g<=4000->∀c,O 372 #[j g,j 512] (j ((g.toNat |||512:Nat):Int)) c):=l (fun g M q c=>by
  obtain⟨p,rfl⟩:∃p:Nat,g=p:=⟨g.toNat,by omega⟩;exact xP p 512 m m c)
 cases A<;>cases B<;>cases C
 . simp only[ei,if_true,cS,dl]at a;have f:Hid ((e:Int)=(b:Int)):=ie;exact vm
 . simp only[ei,if_true,cS,dl]at a;have f:Hid ((e:Int)=((((b:Int)+2048).toNat |||512:Nat):Int)):=by show _=_;rw[a,show((b:Int)+2048).toNat=b+2048 by omega]
   exact vn
 . simp only[ei,if_true,cS,dl]at a;have f:Hid ((e:Int)=(b:Int)+128):=ie;exact vm
 . simp only[ei,if_true,cS,dl]at a;have f:Hid ((e:Int)=((((b:Int)+128+2048).toNat |||512:Nat):Int)):=by show _=_;rw[a,show((b:Int)+128+2048).toNat=b+128+2048 by omega]
   exact vn
 . simp only[ei,if_true,cS,dl]at a;have f:Hid ((e:Int)=(b:Int)+8):=ie;exact vm
 . simp only[ei,if_true,cS,dl]at a;have f:Hid ((e:Int)=((((b:Int)+8+2048).toNat |||512:Nat):Int)):=by show _=_;rw[a,show((b:Int)+8+2048).toNat=b+8+2048 by omega]
   exact vn
 . simp only[ei,if_true,cS,dl]at a;have f:Hid ((e:Int)=(b:Int)+8+128):=ie;exact vm
 . simp only[ei,if_true,cS,dl]at a;have f:Hid ((e:Int)=((((b:Int)+8+128+2048).toNat |||512:Nat):Int)):=by show _=_;rw[a,show((b:Int)+8+128+2048).toNat=b+8+128+2048 by omega]
   exact vn
def jX (a:Q):Q:={a with Wd:=a.Wq,Wq:=1,mode:=a.Wl,Wl:=0,WJ:=if a.Wl=3 then a.WJ else 0}
def n9 (a:Q):Q:={a with Ws:=a.WC,WC:=1,mode:=a.WM,WM:=0,WJ:=0}
def acC (f k:Nat)(a:Q)(g:D)(d:Hid (T g f k a)):
 Calls prog 436 #[I f] g fun e i=>e=.returned (j a.Wm)/\T i f k (jX a)/\Kept [f] g i:=by
 have c1:=d.out.c1;have c3:=d.out.c3;have c5:=d.out.c5;have p:=d.out.W5;have q:=d.out.Xj;have o:=d.out.X3;have r:=d.out.Wb;have h:=(((d.out.set (C':={a with Wd:=a.Wq}) 3 (j a.Wq) rfl m).set (C':={a with Wd:=a.Wq,Wq:=1}) 5 (j 1) rfl m).set (C':={a with Wd:=a.Wq,Wq:=1,mode:=a.Wl}) 1 (j a.Wl) rfl m).set (C':={a with Wd:=a.Wq,Wq:=1,mode:=a.Wl,Wl:=0}) 7 (j 0) rfl m;by_cases b:a.Wl=3
 . have e:jX a={a with Wd:=a.Wq,Wq:=1,mode:=a.Wl,Wl:=0}:=by unfold jX;rw[B b]
   rw[e];have n:((a.Wl:Int) !=3)=false:=g0;have c:=l h;exact I4
 . have e:jX a={a with Wd:=a.Wq,Wq:=1,mode:=a.Wl,Wl:=0,WJ:=0}:=by unfold jX;rw[z b]
   rw[e];have n:((a.Wl:Int) !=3)=true:=M;have c:=l (h.set (C':={a with Wd:=a.Wq,Wq:=1,mode:=a.Wl,Wl:=0,WJ:=0}) 8 (j 0) rfl m);exact I4
def acM (d g:Nat)(a:Q)(e:D)(b:Hid (T e d g a)):
 Calls prog 437 #[I d] e fun h f=>h=.returned (j a.Wu)/\T f d g (n9 a)/\Kept [d] e f:=by
 have c1:=b.out.c1;have c2:=b.out.c2;have c4:=b.out.c4;have k:=b.out.W4;have n:=b.out.Xj;have i:=b.out.X4;have o:=b.out.Wb;have c:=l (((((b.out.set (C':={a with Ws:=a.WC}) 2 (j a.WC) rfl m).set (C':={a with Ws:=a.WC,WC:=1}) 4 (j 1) rfl m).set (C':={a with Ws:=a.WC,WC:=1,mode:=a.WM}) 1 (j a.WM) rfl m).set (C':={a with Ws:=a.WC,WC:=1,mode:=a.WM,WM:=0}) 6 (j 0) rfl m).set (C':=n9 a) 8 (j 0) rfl m);go_enter func437,ntmps437;exact I5
def bD (b:Q)(c:P)(a:Int):Nat:=
 if a=256 then k9 b else
 if a=260 then b.enable&&&b.V9 else
 if a=261 then b.WH else
 if a=262 then b.WA else
 if a=320 then b.WR else
 if a=321 then b.Wu else
 if a=322 then b.WD else
 if a=323 then b.WI else
 if a=324 then bS b c&&&b.V9 else
 if a=384 then b.Wf else
 if a=768 then fx b else
 if a=769 then 1075056901 else
 if a=770 then b.WG else
 if a=771 then b.V9 else
 if a=772 then b.enable else
 if a=773 then b.Wz else
 if a=774 then b.Wp else
 if a=800 then b.Xf else
 if a=832 then b.WK else
 if a=833 then b.Wm else
 if a=834 then b.Wx else
 if a=835 then b.WB else
 if a=836 then bS b c else
 if a=2816 then b.Wa else
 if a=3072 then b.Wa else
 if a=2944 then b.Wg else
 if a=3200 then b.Wg else
 if a=2818 then b.ret else
 if a=3074 then b.ret else
 if a=2946 then b.We else
 if a=3202 then b.We else
 if a=3073 then c.time else
 if a=3201 then c.Wh else
 0
def adD (g d k:Nat)(c:Q)(f:P)(n:ay c)(r:c.soft<=546)(q:f.enable<8)(e:D)(h:Hid (T e g d c))(o:Hid (ap e d k f)):
 aa 248 #[I g,j 256] (j ((k9 c:Nat):Int)) e:=by
 have t:=h.out.V8;have m:=l (dk d k f e o);go_enter func248,ntmps248;go_wp2_with fail;refine m.out.mono ?_;rintro u p ⟨rfl,b⟩;have a:=h.out.more (Below.kept b []) F;have i:=l (aee g d c n p (l a));exact zI
def adA (g d n:Nat)(a:Q)(c:P)(h:ay a)(s:a.soft<=546)(r:c.enable<8)(b:D)(m:Hid (T b g d a))(q:Hid (ap b d n c)):
 aa 248 #[I g,j 260] (j ((a.enable&&&a.V9:Nat):Int)) b:=by
 have t:=m.out.V8;have o:=l (dk d n c b q);have f:=l (fB a.enable a.V9 h.enable h.V9);obtain⟨u,k⟩:=y (a.enable&&&a.V9);rw[<-k]at f|-;clear k;go_enter func248,ntmps248;go_wp2_with fail;refine o.out.mono ?_;rintro p v ⟨rfl,i⟩;have e:=m.out.more (Below.kept i []) F;have d27:=e.XB;have d28:=e.XI;clear e;go_upto_region 6 with fail;go_region_with(go_at_call 323;refine(f.out _).mono ?_;rintro p w ⟨rfl,rfl⟩);all_goals (go_wp2_with fail;go_ret;exact⟨rfl,i.drew⟩)
def adF (g f i:Nat)(c:Q)(e:P)(n:ay c)(p:c.soft<=546)(o:e.enable<8)(d:D)(h:Hid (T d g f c))(m:Hid (ap d f i e)):
 aa 248 #[I g,j 261] (j ((c.WH:Nat):Int)) d:=by
 have q:=h.out.V8;have k:=l (dk f i e d m);go_enter func248,ntmps248;go_wp2_with fail;refine k.out.mono ?_;rintro r s ⟨rfl,a⟩;have b:=h.out.more (Below.kept a []) F;have d20:=b.Yh;exact ek
def ady (g f i:Nat)(c:Q)(e:P)(n:ay c)(p:c.soft<=546)(o:e.enable<8)(d:D)(h:Hid (T d g f c))(m:Hid (ap d f i e)):
 aa 248 #[I g,j 262] (j ((c.WA:Nat):Int)) d:=by
 have q:=h.out.V8;have k:=l (dk f i e d m);go_enter func248,ntmps248;go_wp2_with fail;refine k.out.mono ?_;rintro r s ⟨rfl,a⟩;have b:=h.out.more (Below.kept a []) F;have d25:=b.Yk;exact ek
def adC (g f i:Nat)(c:Q)(e:P)(n:ay c)(p:c.soft<=546)(o:e.enable<8)(d:D)(h:Hid (T d g f c))(m:Hid (ap d f i e)):
 aa 248 #[I g,j 320] (j ((c.WR:Nat):Int)) d:=by
 have q:=h.out.V8;have k:=l (dk f i e d m);go_enter func248,ntmps248;go_wp2_with fail;refine k.out.mono ?_;rintro r s ⟨rfl,a⟩;have b:=h.out.more (Below.kept a []) F;have d21:=b.Yt;exact ek
def adz (g f i:Nat)(c:Q)(e:P)(n:ay c)(p:c.soft<=546)(o:e.enable<8)(d:D)(h:Hid (T d g f c))(m:Hid (ap d f i e)):
 aa 248 #[I g,j 321] (j ((c.Wu:Nat):Int)) d:=by
 have q:=h.out.V8;have k:=l (dk f i e d m);go_enter func248,ntmps248;go_wp2_with fail;refine k.out.mono ?_;rintro r s ⟨rfl,a⟩;have b:=h.out.more (Below.kept a []) F;have d22:=b.X4;exact ek
def adx (g f i:Nat)(c:Q)(e:P)(n:ay c)(p:c.soft<=546)(o:e.enable<8)(d:D)(h:Hid (T d g f c))(m:Hid (ap d f i e)):
 aa 248 #[I g,j 322] (j ((c.WD:Nat):Int)) d:=by
 have q:=h.out.V8;have k:=l (dk f i e d m);go_enter func248,ntmps248;go_wp2_with fail;refine k.out.mono ?_;rintro r s ⟨rfl,a⟩;have b:=h.out.more (Below.kept a []) F;have d23:=b.Yi;exact ek
def adE (g f i:Nat)(c:Q)(e:P)(n:ay c)(p:c.soft<=546)(o:e.enable<8)(d:D)(h:Hid (T d g f c))(m:Hid (ap d f i e)):
 aa 248 #[I g,j 323] (j ((c.WI:Nat):Int)) d:=by
 have q:=h.out.V8;have k:=l (dk f i e d m);go_enter func248,ntmps248;go_wp2_with fail;refine k.out.mono ?_;rintro r s ⟨rfl,a⟩;have b:=h.out.more (Below.kept a []) F;have d24:=b.Yj;exact ek
def adB (f c h:Nat)(a:Q)(b:P)(t:ay a)(o:a.soft<=546)(u:b.enable<8)(e:D)(g:Hid (T e f c a))(m:Hid (ap e c h b)):
 aa 248 #[I f,j 324] (j ((bS a b&&&a.V9:Nat):Int)) e:=by
 have x:=g.out.V8;have r:=l (dk c h b e m);have i:=l (fB (bS a b) a.V9 (p5 a b o) t.V9);obtain⟨z,p⟩:=y (bS a b&&&a.V9);rw[<-p]at i|-;clear p;go_enter func248,ntmps248;go_wp2_with fail;refine r.out.mono ?_;rintro k w ⟨rfl,d⟩;have q:=g.out.more (Below.kept d []) F;have s:=l (qL f c h a b o u w (l q) (l (m.out.more (Below.kept d []) F F)));clear q;go_wp2_with fail;refine s.out.mono ?_;rintro k A ⟨rfl,v⟩;have n:=d.trans (v.mono d.size);have d27:=(g.out.more (Below.kept n []) F).XB;go_wp2_with fail;refine(i.out _).mono ?_;rintro k w3 ⟨rfl,rfl⟩;go_wp2_with fail;go_ret;exact⟨rfl,n⟩
def adw (g f i:Nat)(c:Q)(e:P)(n:ay c)(p:c.soft<=546)(o:e.enable<8)(d:D)(h:Hid (T d g f c))(m:Hid (ap d f i e)):
 aa 248 #[I g,j 384] (j ((c.Wf:Nat):Int)) d:=by
 have q:=h.out.V8;have k:=l (dk f i e d m);go_enter func248,ntmps248;go_wp2_with fail;refine k.out.mono ?_;rintro r s ⟨rfl,a⟩;have b:=h.out.more (Below.kept a []) F;have d31:=b.X6;exact ek
def adt (g d k:Nat)(c:Q)(f:P)(n:ay c)(r:c.soft<=546)(q:f.enable<8)(e:D)(h:Hid (T e g d c))(o:Hid (ap e d k f)):
 aa 248 #[I g,j 768] (j ((fx c:Nat):Int)) e:=by
 have t:=h.out.V8;have m:=l (dk d k f e o);go_enter func248,ntmps248;go_wp2_with fail;refine m.out.mono ?_;rintro u p ⟨rfl,b⟩;have a:=h.out.more (Below.kept b []) F;have i:=l (EM g d c n p (l a));exact zI
def adr (k f g:Nat)(c:Q)(e:P)(m:ay c)(o:c.soft<=546)(n:e.enable<8)(d:D)(h:Hid (T d k f c))(i:Hid (ap d f g e)):
 aa 248 #[I k,j 769] (j ((1075056901:Nat):Int)) d:=vo
def adk (g f i:Nat)(c:Q)(e:P)(n:ay c)(p:c.soft<=546)(o:e.enable<8)(d:D)(h:Hid (T d g f c))(m:Hid (ap d f i e)):
 aa 248 #[I g,j 770] (j ((c.WG:Nat):Int)) d:=by
 have q:=h.out.V8;have k:=l (dk f i e d m);go_enter func248,ntmps248;go_wp2_with fail;refine k.out.mono ?_;rintro r s ⟨rfl,a⟩;have b:=h.out.more (Below.kept a []) F;have d26:=b.Yl;exact ek
def adm (g f i:Nat)(c:Q)(e:P)(n:ay c)(p:c.soft<=546)(o:e.enable<8)(d:D)(h:Hid (T d g f c))(m:Hid (ap d f i e)):
 aa 248 #[I g,j 771] (j ((c.V9:Nat):Int)) d:=by
 have q:=h.out.V8;have k:=l (dk f i e d m);go_enter func248,ntmps248;go_wp2_with fail;refine k.out.mono ?_;rintro r s ⟨rfl,a⟩;have b:=h.out.more (Below.kept a []) F;have d27:=b.XB;exact ek
def adn (g f i:Nat)(c:Q)(e:P)(n:ay c)(p:c.soft<=546)(o:e.enable<8)(d:D)(h:Hid (T d g f c))(m:Hid (ap d f i e)):
 aa 248 #[I g,j 772] (j ((c.enable:Nat):Int)) d:=by
 have q:=h.out.V8;have k:=l (dk f i e d m);go_enter func248,ntmps248;go_wp2_with fail;refine k.out.mono ?_;rintro r s ⟨rfl,a⟩;have b:=h.out.more (Below.kept a []) F;have d28:=b.XI;exact ek
def adv (g f i:Nat)(c:Q)(e:P)(n:ay c)(p:c.soft<=546)(o:e.enable<8)(d:D)(h:Hid (T d g f c))(m:Hid (ap d f i e)):
 aa 248 #[I g,j 773] (j ((c.Wz:Nat):Int)) d:=by
 have q:=h.out.V8;have k:=l (dk f i e d m);go_enter func248,ntmps248;go_wp2_with fail;refine k.out.mono ?_;rintro r s ⟨rfl,a⟩;have b:=h.out.more (Below.kept a []) F;have d14:=b.Yd;exact ek
def adg (g f i:Nat)(c:Q)(e:P)(n:ay c)(p:c.soft<=546)(o:e.enable<8)(d:D)(h:Hid (T d g f c))(m:Hid (ap d f i e)):
 aa 248 #[I g,j 774] (j ((c.Wp:Nat):Int)) d:=by
 have q:=h.out.V8;have k:=l (dk f i e d m);go_enter func248,ntmps248;go_wp2_with fail;refine k.out.mono ?_;rintro r s ⟨rfl,a⟩;have b:=h.out.more (Below.kept a []) F;have d19:=b.Yg;exact ek
def adh (g f i:Nat)(c:Q)(e:P)(n:ay c)(p:c.soft<=546)(o:e.enable<8)(d:D)(h:Hid (T d g f c))(m:Hid (ap d f i e)):
 aa 248 #[I g,j 800] (j ((c.Xf:Nat):Int)) d:=by
 have q:=h.out.V8;have k:=l (dk f i e d m);go_enter func248,ntmps248;go_wp2_with fail;refine k.out.mono ?_;rintro r s ⟨rfl,a⟩;have b:=h.out.more (Below.kept a []) F;have d30:=b.Ym;exact ek
def ads (g f i:Nat)(c:Q)(e:P)(n:ay c)(p:c.soft<=546)(o:e.enable<8)(d:D)(h:Hid (T d g f c))(m:Hid (ap d f i e)):
 aa 248 #[I g,j 832] (j ((c.WK:Nat):Int)) d:=by
 have q:=h.out.V8;have k:=l (dk f i e d m);go_enter func248,ntmps248;go_wp2_with fail;refine k.out.mono ?_;rintro r s ⟨rfl,a⟩;have b:=h.out.more (Below.kept a []) F;have d15:=b.Ys;exact ek
def adl (g f i:Nat)(c:Q)(e:P)(n:ay c)(p:c.soft<=546)(o:e.enable<8)(d:D)(h:Hid (T d g f c))(m:Hid (ap d f i e)):
 aa 248 #[I g,j 833] (j ((c.Wm:Nat):Int)) d:=by
 have q:=h.out.V8;have k:=l (dk f i e d m);go_enter func248,ntmps248;go_wp2_with fail;refine k.out.mono ?_;rintro r s ⟨rfl,a⟩;have b:=h.out.more (Below.kept a []) F;have d16:=b.X3;exact ek
def adf (g f i:Nat)(c:Q)(e:P)(n:ay c)(p:c.soft<=546)(o:e.enable<8)(d:D)(h:Hid (T d g f c))(m:Hid (ap d f i e)):
 aa 248 #[I g,j 834] (j ((c.Wx:Nat):Int)) d:=by
 have q:=h.out.V8;have k:=l (dk f i e d m);go_enter func248,ntmps248;go_wp2_with fail;refine k.out.mono ?_;rintro r s ⟨rfl,a⟩;have b:=h.out.more (Below.kept a []) F;have d17:=b.Ye;exact ek
def adu (g f i:Nat)(c:Q)(e:P)(n:ay c)(p:c.soft<=546)(o:e.enable<8)(d:D)(h:Hid (T d g f c))(m:Hid (ap d f i e)):
 aa 248 #[I g,j 835] (j ((c.WB:Nat):Int)) d:=by
 have q:=h.out.V8;have k:=l (dk f i e d m);go_enter func248,ntmps248;go_wp2_with fail;refine k.out.mono ?_;rintro r s ⟨rfl,a⟩;have b:=h.out.more (Below.kept a []) F;have d18:=b.Yf;exact ek
def adq (g e h:Nat)(d:Q)(c:P)(r:ay d)(p:d.soft<=546)(o:c.enable<8)(f:D)(m:Hid (T f g e d))(k:Hid (ap f e h c)):
 aa 248 #[I g,j 836] (j ((bS d c:Nat):Int)) f:=by
 have t:=m.out.V8;have n:=l (dk e h c f k);go_enter func248,ntmps248;go_wp2_with fail;refine n.out.mono ?_;rintro u q ⟨rfl,b⟩;have a:=m.out.more (Below.kept b []) F;have i:=l (qL g e h d c p o q (l a) (l (k.out.more (Below.kept b []) F F)));exact zI
def adi (i e g:Nat)(f:Q)(d:P)(m:ay f)(o:f.soft<=546)(n:d.enable<8)(c:D)(h:Hid (T c i e f))(k:Hid (ap c e g d)):
 aa 248 #[I i,j 2816] (j ((f.Wa:Nat):Int)) c:=I6
def ac9 (i e g:Nat)(f:Q)(d:P)(m:ay f)(o:f.soft<=546)(n:d.enable<8)(c:D)(h:Hid (T c i e f))(k:Hid (ap c e g d)):
 aa 248 #[I i,j 3072] (j ((f.Wa:Nat):Int)) c:=I6
def adj (i e g:Nat)(f:Q)(d:P)(m:ay f)(o:f.soft<=546)(n:d.enable<8)(c:D)(h:Hid (T c i e f))(k:Hid (ap c e g d)):
 aa 248 #[I i,j 2944] (j ((f.Wg:Nat):Int)) c:=I7
def ada (i e g:Nat)(f:Q)(d:P)(m:ay f)(o:f.soft<=546)(n:d.enable<8)(c:D)(h:Hid (T c i e f))(k:Hid (ap c e g d)):
 aa 248 #[I i,j 3200] (j ((f.Wg:Nat):Int)) c:=I7
def ado (i e g:Nat)(f:Q)(d:P)(m:ay f)(o:f.soft<=546)(n:d.enable<8)(c:D)(h:Hid (T c i e f))(k:Hid (ap c e g d)):
 aa 248 #[I i,j 2818] (j ((f.ret:Nat):Int)) c:=I8
def adb (i e g:Nat)(f:Q)(d:P)(m:ay f)(o:f.soft<=546)(n:d.enable<8)(c:D)(h:Hid (T c i e f))(k:Hid (ap c e g d)):
 aa 248 #[I i,j 3074] (j ((f.ret:Nat):Int)) c:=I8
def adp (i e g:Nat)(f:Q)(d:P)(m:ay f)(o:f.soft<=546)(n:d.enable<8)(c:D)(h:Hid (T c i e f))(k:Hid (ap c e g d)):
 aa 248 #[I i,j 2946] (j ((f.We:Nat):Int)) c:=I9
def ade (i e g:Nat)(f:Q)(d:P)(m:ay f)(o:f.soft<=546)(n:d.enable<8)(c:D)(h:Hid (T c i e f))(k:Hid (ap c e g d)):
 aa 248 #[I i,j 3202] (j ((f.We:Nat):Int)) c:=I9
def adG (k f g:Nat)(c:Q)(e:P)(m:ay c)(o:c.soft<=546)(n:e.enable<8)(d:D)(h:Hid (T d k f c))(i:Hid (ap d f g e)):
 aa 248 #[I k,j 3073] (j ((e.time:Nat):Int)) d:=vo
def adH (k f g:Nat)(c:Q)(e:P)(m:ay c)(o:c.soft<=546)(n:e.enable<8)(d:D)(h:Hid (T d k f c))(i:Hid (ap d f g e)):
 aa 248 #[I k,j 3201] (j ((e.Wh:Nat):Int)) d:=vo
def adI (k f g:Nat)(m:Q)(e:P)(c:Int)(n:(c==256)=false)(o:(c==260)=false)(z:(c==261)=false)(N:(c==262)=false)(U:(c==320)=false)(V:(c==321)=false)(W:(c==322)=false)(X:(c==323)=false)(Y:(c==324)=false)(Z:(c==384)=false)(p:(c==768)=false)(q:(c==769)=false)(r:(c==770)=false)(s:(c==771)=false)(t:(c==772)=false)(u:(c==773)=false)(v:(c==774)=false)(w:(c==800)=false)(x:(c==832)=false)(y:(c==833)=false)(A:(c==834)=false)(B:(c==835)=false)(C:(c==836)=false)(E:(c==2816)=false)(G:(c==3072)=false)(H:(c==2944)=false)(J:(c==3200)=false)(K:(c==2818)=false)(L:(c==3074)=false)(M:(c==2946)=false)(O:(c==3202)=false)(R:(c==3073)=false)(S:(c==3201)=false)(d:D)(h:Hid (T d k f m))(i:Hid (ap d f g e)):
 aa 248 #[I k,j c] (j 0) d:=vo
def xU (e d g:Nat)(a:Q)(b:P)(k:ay a)(m:a.soft<=546)(l:b.enable<8)(f:Int)(c:D)(i:Hid (T c e d a))(h:Hid (ap c d g b)):
 aa 248 #[I e,j f] (j (bD a b f)) c:=by
 unfold bD;by_cases n:f=256
 . subst n;rw[B rfl];exact adD e d g a b k m l c i h
 rw[z n];by_cases o:f=260
 . subst o;rw[B rfl];exact adA e d g a b k m l c i h
 rw[z o];by_cases A:f=261
 . subst A;rw[B rfl];exact adF e d g a b k m l c i h
 rw[z A];by_cases O:f=262
 . subst O;rw[B rfl];exact ady e d g a b k m l c i h
 rw[z O];by_cases V:f=320
 . subst V;rw[B rfl];exact adC e d g a b k m l c i h
 rw[z V];by_cases W:f=321
 . subst W;rw[B rfl];exact adz e d g a b k m l c i h
 rw[z W];by_cases X:f=322
 . subst X;rw[B rfl];exact adx e d g a b k m l c i h
 rw[z X];by_cases Y:f=323
 . subst Y;rw[B rfl];exact adE e d g a b k m l c i h
 rw[z Y];by_cases Z:f=324
 . subst Z;rw[B rfl];exact adB e d g a b k m l c i h
 rw[z Z];by_cases ab:f=384
 . subst ab;rw[B rfl];exact adw e d g a b k m l c i h
 rw[z ab];by_cases p:f=768
 . subst p;rw[B rfl];exact adt e d g a b k m l c i h
 rw[z p];by_cases q:f=769
 . subst q;rw[B rfl];exact adr e d g a b k m l c i h
 rw[z q];by_cases r:f=770
 . subst r;rw[B rfl];exact adk e d g a b k m l c i h
 rw[z r];by_cases s:f=771
 . subst s;rw[B rfl];exact adm e d g a b k m l c i h
 rw[z s];by_cases t:f=772
 . subst t;rw[B rfl];exact adn e d g a b k m l c i h
 rw[z t];by_cases u:f=773
 . subst u;rw[B rfl];exact adv e d g a b k m l c i h
 rw[z u];by_cases v:f=774
 . subst v;rw[B rfl];exact adg e d g a b k m l c i h
 rw[z v];by_cases w:f=800
 . subst w;rw[B rfl];exact adh e d g a b k m l c i h
 rw[z w];by_cases x:f=832
 . subst x;rw[B rfl];exact ads e d g a b k m l c i h
 rw[z x];by_cases y:f=833
 . subst y;rw[B rfl];exact adl e d g a b k m l c i h
 rw[z y];by_cases C:f=834
 . subst C;rw[B rfl];exact adf e d g a b k m l c i h
 rw[z C];by_cases E:f=835
 . subst E;rw[B rfl];exact adu e d g a b k m l c i h
 rw[z E];by_cases F:f=836
 . subst F;rw[B rfl];exact adq e d g a b k m l c i h
 rw[z F];by_cases G:f=2816
 . subst G;rw[B rfl];exact adi e d g a b k m l c i h
 rw[z G];by_cases H:f=3072
 . subst H;rw[B rfl];exact ac9 e d g a b k m l c i h
 rw[z H];by_cases J:f=2944
 . subst J;rw[B rfl];exact adj e d g a b k m l c i h
 rw[z J];by_cases K:f=3200
 . subst K;rw[B rfl];exact ada e d g a b k m l c i h
 rw[z K];by_cases L:f=2818
 . subst L;rw[B rfl];exact ado e d g a b k m l c i h
 rw[z L];by_cases M:f=3074
 . subst M;rw[B rfl];exact adb e d g a b k m l c i h
 rw[z M];by_cases N:f=2946
 . subst N;rw[B rfl];exact adp e d g a b k m l c i h
 rw[z N];by_cases R:f=3202
 . subst R;rw[B rfl];exact ade e d g a b k m l c i h
 rw[z R];by_cases S:f=3073
 . subst S;rw[B rfl];exact adG e d g a b k m l c i h
 rw[z S];by_cases U:f=3201
 . subst U;rw[B rfl];exact adH e d g a b k m l c i h
 rw[z U];exact adI e d g a b f (by simp[n]) (by simp[o]) (by simp[A]) (by simp[O]) (by simp[V]) (by simp[W]) (by simp[X]) (by simp[Y]) (by simp[Z]) (by simp[ab]) (by simp[p]) (by simp[q]) (by simp[r]) (by simp[s]) (by simp[t]) (by simp[u]) (by simp[v]) (by simp[w]) (by simp[x]) (by simp[y]) (by simp[C]) (by simp[E]) (by simp[F]) (by simp[G]) (by simp[H]) (by simp[J]) (by simp[K]) (by simp[L]) (by simp[M]) (by simp[N]) (by simp[R]) (by simp[S]) (by simp[U]) c i h
theorem afE {c:P}(e:aT c)(f:Int)(d:Nat)(b:G d):aT (eP c f d):=by
 have a:=e;unfold eP;repeat' split
 all_goals first
  |exact e
  |exact⟨a.o,by show _%_<_;omega,a.time,a.Wh,a.cmp,a.Wv,a.enable,a.Wr,a.rx,a.Wc⟩
  |exact⟨a.o,a.Wj,a.time,a.Wh,b,a.Wv,a.enable,a.Wr,a.rx,a.Wc⟩
  |exact⟨a.o,a.Wj,a.time,a.Wh,a.cmp,b,a.enable,a.Wr,a.rx,a.Wc⟩
  |exact⟨a.o,a.Wj,b,a.Wh,a.cmp,a.Wv,a.enable,a.Wr,a.rx,a.Wc⟩
  |exact⟨a.o,a.Wj,a.time,b,a.cmp,a.Wv,a.enable,a.Wr,a.rx,a.Wc⟩
  |exact⟨a.o,a.Wj,a.time,a.Wh,a.cmp,a.Wv,by show _%_<_;omega,a.Wr,a.rx,a.Wc⟩
  |exact⟨a.o,a.Wj,a.time,a.Wh,a.cmp,a.Wv,a.enable,by show _%_<_;omega,a.rx,a.Wc⟩
  | (refine⟨a.o,a.Wj,a.time,a.Wh,a.cmp,a.Wv,a.enable,a.Wr,a.rx,?_⟩
     show(c.Wc++strOfNums (b4 d 1)).size<=8;rw[fm,oa,kR];omega)
def afF (a:P)(b:Int)(c:Nat):(eP a b c).o=a.o:=by
 unfold eP;repeat' split
 all_goals rfl
def tf {b:P}(a:aT b){r:List L}(c:r.length=b.o.length):aT {b with o:=r}:=⟨by show r.length<=_;rw[c];exact a.o,a.Wj,a.time,a.Wh,a.cmp,a.Wv,a.enable,a.Wr,a.rx,a.Wc⟩
def ol {c:P}(a:aT c)(d f:Int)(b:Nat)(e:G b):aT (ch c d f b):=by
 unfold ch;split
 . exact tf a (mB _ _ _ _)
 . split
   . exact afE a d b e
   . exact a
def afD (a:P)(c b:Int)(d:Nat):(ch a c b d).o.length=a.o.length:=by
 unfold ch;split
 . exact mB _ _ _ _
 . split
   . rw[afF]
   . rfl
theorem UQ {b:P}(c:aT b)(d:Int):aT (dx b d).2:=by
 have a:=c;unfold dx;repeat' split
 all_goals first
  |exact c
  |exact⟨a.o,a.Wj,a.time,a.Wh,a.cmp,a.Wv,a.enable,a.Wr,by show(b.rx.extract 1 b.rx.size).size<=4;rw[ByteArray.size_extract];have:=a.rx;omega,a.Wc⟩
  |exact⟨a.o,a.Wj,a.time,a.Wh,a.cmp,a.Wv,a.enable,a.Wr,a.rx,a.Wc⟩
def UR (a:P)(b:Int):(dx a b).2.o=a.o:=by
 unfold dx;repeat' split
 all_goals rfl
def ji {b:P}(a:aT b)(c d:Int):aT (ba b c d).2:=by
 unfold ba;split
 . exact a
 . split
   . exact UQ a c
   . exact a
def Db (a:P)(c b:Int):(ba a c b).2.o.length=a.o.length:=by
 unfold ba;split
 . rfl
 . split
   . rw[UR]
   . rfl
def s3 (b:P)(p a:Nat):cc b p a<256^a:=by
 unfold cc;have c:=p7 ((b.o.drop p).take a);have d:((b.o.drop p).take a).length<=a:=M;exact aR c (cY m d)
def afo (a:P):eO a<256:=by
 unfold eO;exact rX
def VL (a:P):hV a<256:=by
 unfold hV;exact rX
def iC {a:P}(n:aT a)(d:Int)(c:Nat)(r:1<=c):(ba a d c).1<256^c:=by
 have b:=n;unfold ba;split
 . rw[ds];exact s3 _ _ _
 . rename_i l;split
   . rename_i m;have g:a1 d c a.o.length=false:=by simpa using l
     rcases xG g m with⟨f,o⟩|⟨e,o⟩
     . have q:c=4:=J;subst q;have h:=b.Wj;have i:=b.cmp;have j:=b.Wv;have k:=b.time;have s:=b.Wh;unfold eK at f;simp at f;show(dx a d).1<4294967296;rcases f with rfl|rfl|rfl|rfl|rfl<;>simp[dx]<;>omega
     . have p:c=1:=J;subst p;have h:=b.enable;have i:=b.Wr;have j:=afo a;have k:=VL a;unfold ep at e;simp at e;show(dx a d).1<256;rcases e with rfl|rfl|rfl|rfl|rfl
       . simp only[dx];simp;split
         . exact UInt8.toNat_lt _
         . omega
       all_goals (simp[dx];omega)
   . exact ue F
theorem Cu {a:P}(b:aT a)(c:Q)(e d g h f mode:Nat):aT (fO a c e d g h f mode).2:=by
 unfold fO;repeat' split
 all_goals first
  |exact b
  |exact tf b (mB _ _ _ _)
theorem Cs (a:P)(b:Q)(d c f g e mode:Nat):(fO a b d c f g e mode).2.o.length=a.o.length:=by
 unfold fO;repeat' split
 all_goals first
  |rfl
  |exact mB _ _ _ _
def Ct (d:P)(e:Q)(a f b c g mode:Nat)(h:G a):(fO d e a f b c g mode).1.1<17184063488/\(fO d e a f b c g mode).1.2<=2:=by
 have i:c%gG b<4194304:=by
  unfold gG;split<;>omega
 unfold fO;exact zN
theorem afh {a:P}(b:aT a)(c:Q)(e f d mode:Nat):aT (fY a c e f d mode).2:=by
 unfold fY;repeat' split
 all_goals first
  |exact b
  |exact Cu b _ _ _ _ _ _ _
theorem aff (a:P)(b:Q)(d e c mode:Nat):(fY a b d e c mode).2.o.length=a.o.length:=by
 unfold fY;repeat' split
 all_goals first
  |rfl
  |exact Cs _ _ _ _ _ _ _ _
theorem afg (a:P)(b:Q)(d e c mode:Nat):(fY a b d e c mode).1.1<17184063488/\(fY a b d e c mode).1.2<=2:=by
 unfold fY;repeat' split
 all_goals first
  |exact Ct _ _ _ _ _ _ _ _ (nF _ _)
  |exact⟨by dsimp only;omega,by dsimp only;omega⟩
theorem afk {b:P}(a:aT b)(c:Q)(e f d mode:Nat):aT (fC b c e f d mode).2:=by
 unfold fC;repeat' split
 all_goals first
  |exact a
  |exact Cu a _ _ _ _ _ _ _
  |exact afh a _ _ _ _ _
theorem afi (a:P)(b:Q)(d e c mode:Nat):(fC a b d e c mode).2.o.length=a.o.length:=by
 unfold fC;repeat' split
 all_goals first
  |rfl
  |exact Cs _ _ _ _ _ _ _ _
  |exact aff _ _ _ _ _ _
theorem afj (a:P)(b:Q)(d e c mode:Nat):(fC a b d e c mode).1.1<17184063488/\(fC a b d e c mode).1.2<=2:=by
 unfold fC;repeat' split
 all_goals first
  |exact Ct _ _ _ _ _ _ _ _ (nF _ _)
  |exact afg _ _ _ _ _ _
  |exact⟨by dsimp only;omega,by dsimp only;omega⟩
def hQ (a:Q)(b:Nat):Bool:=if decide (cx a b<3)=true then decide (2147483648<=a.Wf)else false
def a3 (c:P)(a:Q)(d b:Nat):(Nat×Nat)×P:=if hQ a b=true then fC c a (a.Wf%4194304*4096) d b (cx a b)else((d,0),c)
def fA {a:P}(b:aT a)(c:Q)(e d:Nat):aT (a3 a c e d).2:=by
 unfold a3;split
 . exact afk b _ _ _ _ _
 . exact b
def tq (a:P)(b:Q)(d c:Nat):(a3 a b d c).2.o.length=a.o.length:=by
 unfold a3;split
 . exact afi _ _ _ _ _ _
 . rfl
def fW (b:P)(c:Q)(a d:Nat)(e:G a):(a3 b c a d).1.1<17184063488/\(a3 b c a d).1.2<=2:=by
 unfold a3;split
 . exact afj _ _ _ _ _ _
 . exact pv
def nJ (a:(Nat×Nat)×P):(Nat×Nat)×P:=
 if a.1.2=0 then(if a1 (a.1.1:Nat) 2 a.2.o.length=true then((cc a.2 (a.1.1-2147483648) 2,0),a.2)else((0,2),a.2))else((0,a.1.2),a.2)
def ck (a:P)(b:Q)(c:Nat):(Nat×Nat)×P:=nJ (a3 a b c 0)
def nK {a:P}(d:aT a)(b:Q)(c:Nat):aT (ck a b c).2:=by
 have:=fA d b c 0;unfold ck nJ;exact zO
def sB (b:P)(c:Q)(a:Nat)(d:G a):(ck b c a).1.1<65536/\(ck b c a).1.2<=2:=by
 have e:=(fW b c a 0 d).2;unfold ck nJ;repeat' split
 . have f:=s3 (a3 b c a 0).2 ((a3 b c a 0).1.1-2147483648) 2;exact pv
 . exact pv
 . exact⟨by dsimp only;omega,e⟩
def iN (a:(Nat×Nat)×P):(Nat×Nat)×P:=
 if a.1.2=0 then(if a1 (a.1.1:Nat) 4 a.2.o.length=true then a else((0,2),a.2))else a
def cV (a:P)(b:Q)(d c:Nat):(Nat×Nat)×P:=iN (a3 a b d c)
def xX {a:P}(e:aT a)(b:Q)(d c:Nat):aT (cV a b d c).2:=by
 have:=fA e b d c;unfold cV iN;exact zO
def EW (b:P)(c:Q)(a d:Nat)(f:G a):(cV b c a d).1.1<17184063488/\(cV b c a d).1.2<=2:=by
 have e:=fW b c a d f;unfold cV iN;repeat' split
 . exact e
 . exact pv
 . exact e
def afp (c:P)(d:Q)(g f:Nat)(a:(cV c d g f).1.2=0):a1 ((cV c d g f).1.1:Nat) 4 (cV c d g f).2.o.length=true:=by
 unfold cV iN at a|-;split
 . rename_i b;split
   . rename_i e;exact e
   . rename_i e;rw[B b,z e]at a;simp at a
 . rename_i b;rw[z b]at a;exact absurd a b
structure dI where
 Xd:Nat
 WO:Nat
 Xr:Nat
 Xg:Nat
 fault:Nat
 XF:Nat
def jl (a:dI):Value:=.agg #[j a.Xd,j a.WO,j a.Xr,j a.Xg,j a.fault,j a.XF]
def gD (b a:Nat):Nat:=if 4096-b%4096<a then 4096-b%4096 else a
def ms (e b c d:Nat)(a:(Nat×Nat)×P):dI×P:=
 if a.1.2=0 then(if bF (a.1.1:Nat) ((c-b:Nat):Int) a.2.o.length=true then(⟨e,b,a.1.1,c-b,0,0⟩,a.2)else(⟨0,0,0,0,2,d⟩,a.2))else(⟨0,0,0,0,a.1.2,d⟩,a.2)
def jZ (e:Q)(c d f b:Nat)(a:(Nat×Nat)×P):dI×P:=
 if a.1.2=0 then(if bF (a.1.1:Nat) (b:Nat) a.2.o.length=true then
  (if b<d then ms a.1.1 b d ((c+b)%4294967296) (a3 a.2 e ((c+b)%4294967296) f)else(⟨a.1.1,b,0,0,0,0⟩,a.2))
  else(⟨0,0,0,0,2,c⟩,a.2))else(⟨0,0,0,0,a.1.2,c⟩,a.2)
def a2 (e:P)(b:Q)(a d c:Nat):dI×P:=jZ b a d c (gD a d) (a3 e b a c)
def hl {d:P}(h:aT d)(b:Q)(a f c:Nat):aT (a2 d b a f c).2:=by
 have e:=fA h b a c;have g:=fA e b ((a+gD a f)%4294967296) c;unfold a2 jZ ms;repeat' split
 all_goals first|exact e|exact g
def k1 (b:P)(c:Q)(a f d:Nat):(a2 b c a f d).2.o.length=b.o.length:=by
 have e:=tq b c a d;have g:=tq (a3 b c a d).2 c ((a+gD a f)%4294967296) d;unfold a2 jZ ms;repeat' split
 all_goals first|exact e|exact g.trans e
structure vV (a:dI)(b:Nat):Prop where
 Xd:a.Xd<17184063488
 Xr:a.Xr<17184063488
 fault:a.fault<=2
 XF:a.XF<4294967296
 WO:a.fault=0->1<=a.WO
 sum:a.fault=0->a.WO+a.Xg=b
 le:a.WO+a.Xg<=b
def hm (e:P)(c:Q)(a b d:Nat)(j:G a)(l:1<=b):vV (a2 e c a b d).1 b:=by
 have k:=fW e c a d j;have i:1<=gD a b/\gD a b<=b:=Aq;have f:(a+gD a b)%4294967296<4294967296:=J;have g:=fW (a3 e c a d).2 c ((a+gD a b)%4294967296) d f;unfold a2 jZ ms;obtain⟨m,h⟩:=y (gD a b);rw[<-h]at i f g|-;repeat' split
 all_goals exact⟨by dsimp only;omega,by dsimp only;omega,by dsimp only;omega,by dsimp only;omega,by dsimp only;omega,by dsimp only;omega,by dsimp only;omega⟩
def dU (b:P)(a:dI):Nat×P:=
 if 0<a.Xg then((ba b a.Xd a.WO).1+(ba (ba b a.Xd a.WO).2 a.Xr a.Xg).1*256^a.WO,(ba (ba b a.Xd a.WO).2 a.Xr a.Xg).2)else ba b a.Xd a.WO
def SJ {a:P}(b:aT a)(c:dI):aT (dU a c).2:=by
 unfold dU;split
 . exact ji (ji b _ _) _ _
 . exact ji b _ _
def wX {c:P}(h:aT c)(a:dI)(k:1<=a.WO):(dU c a).1<256^(a.WO+a.Xg):=by
 have e:=iC h a.Xd a.WO k;unfold dU;split
 . rename_i g;have f:=iC (ji h a.Xd a.WO) a.Xr a.Xg g;dsimp only;rw[ow];obtain⟨j,m⟩:=y ((ba c a.Xd a.WO).1);obtain⟨d,n⟩:=y ((ba (ba c a.Xd a.WO).2 a.Xr a.Xg).1);rw[<-m]at e|-;rw[<-n]at f|-;obtain⟨b,o⟩:=y (256^a.WO);obtain⟨i,p⟩:=y (256^a.Xg);rw[<-o]at e|-;rw[<-p]at f|-;calc j+d*b<b+d*b:=by omega
    _=(d+1)*b:=by rw[Nat.add_mul];omega
    _<=i*b:=j7 _ f
    _=b*i:=fl _ _
 . rename_i g;have l:a.Xg=0:=J;rw[l];exact e
def iF (c:P)(a:dI)(b:Nat):P:=if 0<a.Xg then ch (ch c a.Xd a.WO b) a.Xr a.Xg (b/256^a.WO)else ch c a.Xd a.WO b
def VY {c:P}(d:aT c)(e:dI)(b:Nat)(a:G b):aT (iF c e b):=by
 have f:b/256^e.WO<4294967296:=bL (ln _ _) a;unfold iF;split
 . exact ol (ol d _ _ _ a) _ _ _ f
 . exact ol d _ _ _ a
end Go.Proofs.YtmlgonbhoknoiaaGreatDoor
