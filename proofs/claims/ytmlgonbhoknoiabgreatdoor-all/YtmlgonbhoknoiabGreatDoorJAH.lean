import Derived.Test.YtmlgonbhoknoiabGreatDoorJAF
set_option maxHeartbeats 8000000
set_option maxRecDepth 100000
set_option linter.all false
namespace Go.Proofs.YtmlgonbhoknoiabGreatDoor
open Go.RowKit Go.Proofs.Tryz
def bQ (b:Q)(a:P):Nat:=if(!decide (eO a=1))=true then(((b.soft+if decide (a.Wj=1)=true then 8 else 0)+if fO a=true then 128 else 0)+2048) |||512 else(b.soft+if decide (a.Wj=1)=true then 8 else 0)+if fO a=true then 128 else 0
def Tx (a b:Nat)(c:G a)(d:G b):(a |||b)<4294967296:=yK (n:=32) c d
def ql (a:Q)(b:P)(c:a.soft<=546):bQ a b<4294967296:=by
 unfold bQ;split
 . refine Tx _ _ ?_ R;split<;>split<;>omega
 . split<;>split<;>omega
def q2 (o h n:Nat)(i:Q)(d:P)(J:i.soft<=546)(H:d.enable<8)(c:D)(r:Hid (T c o h i))(k:Hid (ap c h n d)):
 ac 328 #[I o] (j (bQ i d)) c:=by
 have s:=l (abW h n d c k);have t:=l (abX h n d c k);have u:=l (fun v (G:Below c.heap.size c v)=>abI h n d H v (l (k.out.more (Below.kept G []) F F)));have K:=r.out.V8;have E:=r.out.X5;obtain⟨e,a⟩:=y (bQ i d);rw[<-a];unfold bQ at a;obtain⟨A,q⟩:=y (decide (d.Wj=1));obtain⟨B,w⟩:=y (fO d);obtain⟨C,x⟩:=y (!decide (eO d=1));rw[<-q]at s a;rw[<-w]at t a;rw[<-x]at u a;obtain⟨b,z⟩:=y (i.soft);rw[<-z]at J E a;clear q w x z k;have L:Hid (∀g:Int,0<=g->g<=4000->∀c,O 374 #[j g,j 512] (j ((g.toNat |||512:Nat):Int)) c):=l (fun g M q c=>by
  obtain⟨p,rfl⟩:∃p:Nat,g=p:=⟨g.toNat,by omega⟩;exact yb p 512 m m c)
 cases A<;>cases B<;>cases C
 . simp only[eh,if_true,cP,di]at a;have f:Hid ((e:Int)=(b:Int)):=ig;exact vI
 . simp only[eh,if_true,cP,di]at a;have f:Hid ((e:Int)=((((b:Int)+2048).toNat |||512:Nat):Int)):=by show _=_;rw[a,show((b:Int)+2048).toNat=b+2048 by omega]
   exact vJ
 . simp only[eh,if_true,cP,di]at a;have f:Hid ((e:Int)=(b:Int)+128):=ig;exact vI
 . simp only[eh,if_true,cP,di]at a;have f:Hid ((e:Int)=((((b:Int)+128+2048).toNat |||512:Nat):Int)):=by show _=_;rw[a,show((b:Int)+128+2048).toNat=b+128+2048 by omega]
   exact vJ
 . simp only[eh,if_true,cP,di]at a;have f:Hid ((e:Int)=(b:Int)+8):=ig;exact vI
 . simp only[eh,if_true,cP,di]at a;have f:Hid ((e:Int)=((((b:Int)+8+2048).toNat |||512:Nat):Int)):=by show _=_;rw[a,show((b:Int)+8+2048).toNat=b+8+2048 by omega]
   exact vJ
 . simp only[eh,if_true,cP,di]at a;have f:Hid ((e:Int)=(b:Int)+8+128):=ig;exact vI
 . simp only[eh,if_true,cP,di]at a;have f:Hid ((e:Int)=((((b:Int)+8+128+2048).toNat |||512:Nat):Int)):=by show _=_;rw[a,show((b:Int)+8+128+2048).toNat=b+8+128+2048 by omega]
   exact vJ
def j0 (a:Q):Q:={a with Wd:=a.Wq,Wq:=1,mode:=a.Wl,Wl:=0,WJ:=if a.Wl=3 then a.WJ else 0}
def od (a:Q):Q:={a with Ws:=a.WC,WC:=1,mode:=a.WM,WM:=0,WJ:=0}
def abV (f k:Nat)(a:Q)(g:D)(d:Hid (T g f k a)):
 Calls prog 436 #[I f] g fun e i=>e=.returned (j a.Wm)/\T i f k (j0 a)/\Kept [f] g i:=by
 have c1:=d.out.c1;have c3:=d.out.c3;have c5:=d.out.c5;have p:=d.out.W5;have q:=d.out.Xj;have o:=d.out.X3;have r:=d.out.Wb;have h:=(((d.out.set (C':={a with Wd:=a.Wq}) 3 (j a.Wq) rfl m).set (C':={a with Wd:=a.Wq,Wq:=1}) 5 (j 1) rfl m).set (C':={a with Wd:=a.Wq,Wq:=1,mode:=a.Wl}) 1 (j a.Wl) rfl m).set (C':={a with Wd:=a.Wq,Wq:=1,mode:=a.Wl,Wl:=0}) 7 (j 0) rfl m;by_cases b:a.Wl=3
 . have e:j0 a={a with Wd:=a.Wq,Wq:=1,mode:=a.Wl,Wl:=0}:=by unfold j0;rw[B b]
   rw[e];have n:((a.Wl:Int) !=3)=false:=gZ;have c:=l h;exact Jo
 . have e:j0 a={a with Wd:=a.Wq,Wq:=1,mode:=a.Wl,Wl:=0,WJ:=0}:=by unfold j0;rw[z b]
   rw[e];have n:((a.Wl:Int) !=3)=true:=M;have c:=l (h.set (C':={a with Wd:=a.Wq,Wq:=1,mode:=a.Wl,Wl:=0,WJ:=0}) 8 (j 0) rfl m);exact Jo
def ab5 (d g:Nat)(a:Q)(e:D)(b:Hid (T e d g a)):
 Calls prog 437 #[I d] e fun h f=>h=.returned (j a.Wu)/\T f d g (od a)/\Kept [d] e f:=by
 have c1:=b.out.c1;have c2:=b.out.c2;have c4:=b.out.c4;have k:=b.out.W4;have n:=b.out.Xj;have i:=b.out.X4;have o:=b.out.Wb;have c:=l (((((b.out.set (C':={a with Ws:=a.WC}) 2 (j a.WC) rfl m).set (C':={a with Ws:=a.WC,WC:=1}) 4 (j 1) rfl m).set (C':={a with Ws:=a.WC,WC:=1,mode:=a.WM}) 1 (j a.WM) rfl m).set (C':={a with Ws:=a.WC,WC:=1,mode:=a.WM,WM:=0}) 6 (j 0) rfl m).set (C':=od a) 8 (j 0) rfl m);go_enter func437,ntmps437;exact Jp
def bB (b:Q)(c:P)(a:Int):Nat:=
 if a=256 then k9 b else
 if a=260 then b.enable&&&b.V9 else
 if a=261 then b.WH else
 if a=262 then b.WA else
 if a=320 then b.WR else
 if a=321 then b.Wu else
 if a=322 then b.WD else
 if a=323 then b.WI else
 if a=324 then bQ b c&&&b.V9 else
 if a=384 then b.Wf else
 if a=768 then fw b else
 if a=769 then 1075056901 else
 if a=770 then b.WG else
 if a=771 then b.V9 else
 if a=772 then b.enable else
 if a=773 then b.Wz else
 if a=774 then b.Wp else
 if a=800 then b.Xf else
 if a=832 then b.WK else
 if a=833 then b.Wm else
 if a=834 then b.Wx else
 if a=835 then b.WB else
 if a=836 then bQ b c else
 if a=2816 then b.Wa else
 if a=3072 then b.Wa else
 if a=2944 then b.Wg else
 if a=3200 then b.Wg else
 if a=2818 then b.ret else
 if a=3074 then b.ret else
 if a=2946 then b.We else
 if a=3202 then b.We else
 if a=3073 then c.time else
 if a=3201 then c.Wh else
 0
def acX (g d k:Nat)(c:Q)(f:P)(n:ay c)(r:c.soft<=546)(q:f.enable<8)(e:D)(h:Hid (T e g d c))(o:Hid (ap e d k f)):
 ac 253 #[I g,j 256] (j ((k9 c:Nat):Int)) e:=by
 have t:=h.out.V8;have m:=l (dh d k f e o);go_enter dj,dk;go_wp2_with fail;refine m.out.mono ?_;rintro u p ⟨rfl,b⟩;have a:=h.out.more (Below.kept b []) F;have i:=l (adA g d c n p (l a));exact z9
def acU (g d n:Nat)(a:Q)(c:P)(h:ay a)(s:a.soft<=546)(r:c.enable<8)(b:D)(m:Hid (T b g d a))(q:Hid (ap b d n c)):
 ac 253 #[I g,j 260] (j ((a.enable&&&a.V9:Nat):Int)) b:=by
 have t:=m.out.V8;have o:=l (dh d n c b q);have f:=l (fA a.enable a.V9 h.enable h.V9);obtain⟨u,k⟩:=y (a.enable&&&a.V9);rw[<-k]at f|-;clear k;go_enter dj,dk;go_wp2_with fail;refine o.out.mono ?_;rintro p v ⟨rfl,i⟩;have e:=m.out.more (Below.kept i []) F;have d27:=e.XB;have d28:=e.XI;clear e;go_upto_region 6 with fail;go_region_with(go_at_call 327;refine(f.out _).mono ?_;rintro p w ⟨rfl,rfl⟩);all_goals (go_wp2_with fail;go_ret;exact⟨rfl,i.drew⟩)
def acZ (g f i:Nat)(c:Q)(e:P)(n:ay c)(p:c.soft<=546)(o:e.enable<8)(d:D)(h:Hid (T d g f c))(m:Hid (ap d f i e)):
 ac 253 #[I g,j 261] (j ((c.WH:Nat):Int)) d:=by
 have q:=h.out.V8;have k:=l (dh f i e d m);go_enter dj,dk;go_wp2_with fail;refine k.out.mono ?_;rintro r s ⟨rfl,a⟩;have b:=h.out.more (Below.kept a []) F;have d20:=b.Yh;exact ej
def acS (g f i:Nat)(c:Q)(e:P)(n:ay c)(p:c.soft<=546)(o:e.enable<8)(d:D)(h:Hid (T d g f c))(m:Hid (ap d f i e)):
 ac 253 #[I g,j 262] (j ((c.WA:Nat):Int)) d:=by
 have q:=h.out.V8;have k:=l (dh f i e d m);go_enter dj,dk;go_wp2_with fail;refine k.out.mono ?_;rintro r s ⟨rfl,a⟩;have b:=h.out.more (Below.kept a []) F;have d25:=b.Yk;exact ej
def acW (g f i:Nat)(c:Q)(e:P)(n:ay c)(p:c.soft<=546)(o:e.enable<8)(d:D)(h:Hid (T d g f c))(m:Hid (ap d f i e)):
 ac 253 #[I g,j 320] (j ((c.WR:Nat):Int)) d:=by
 have q:=h.out.V8;have k:=l (dh f i e d m);go_enter dj,dk;go_wp2_with fail;refine k.out.mono ?_;rintro r s ⟨rfl,a⟩;have b:=h.out.more (Below.kept a []) F;have d21:=b.Yt;exact ej
def acT (g f i:Nat)(c:Q)(e:P)(n:ay c)(p:c.soft<=546)(o:e.enable<8)(d:D)(h:Hid (T d g f c))(m:Hid (ap d f i e)):
 ac 253 #[I g,j 321] (j ((c.Wu:Nat):Int)) d:=by
 have q:=h.out.V8;have k:=l (dh f i e d m);go_enter dj,dk;go_wp2_with fail;refine k.out.mono ?_;rintro r s ⟨rfl,a⟩;have b:=h.out.more (Below.kept a []) F;have d22:=b.X4;exact ej
def acR (g f i:Nat)(c:Q)(e:P)(n:ay c)(p:c.soft<=546)(o:e.enable<8)(d:D)(h:Hid (T d g f c))(m:Hid (ap d f i e)):
 ac 253 #[I g,j 322] (j ((c.WD:Nat):Int)) d:=by
 have q:=h.out.V8;have k:=l (dh f i e d m);go_enter dj,dk;go_wp2_with fail;refine k.out.mono ?_;rintro r s ⟨rfl,a⟩;have b:=h.out.more (Below.kept a []) F;have d23:=b.Yi;exact ej
def acY (g f i:Nat)(c:Q)(e:P)(n:ay c)(p:c.soft<=546)(o:e.enable<8)(d:D)(h:Hid (T d g f c))(m:Hid (ap d f i e)):
 ac 253 #[I g,j 323] (j ((c.WI:Nat):Int)) d:=by
 have q:=h.out.V8;have k:=l (dh f i e d m);go_enter dj,dk;go_wp2_with fail;refine k.out.mono ?_;rintro r s ⟨rfl,a⟩;have b:=h.out.more (Below.kept a []) F;have d24:=b.Yj;exact ej
def acV (f c h:Nat)(a:Q)(b:P)(t:ay a)(o:a.soft<=546)(u:b.enable<8)(e:D)(g:Hid (T e f c a))(m:Hid (ap e c h b)):
 ac 253 #[I f,j 324] (j ((bQ a b&&&a.V9:Nat):Int)) e:=by
 have x:=g.out.V8;have r:=l (dh c h b e m);have i:=l (fA (bQ a b) a.V9 (ql a b o) t.V9);obtain⟨z,p⟩:=y (bQ a b&&&a.V9);rw[<-p]at i|-;clear p;go_enter dj,dk;go_wp2_with fail;refine r.out.mono ?_;rintro k w ⟨rfl,d⟩;have q:=g.out.more (Below.kept d []) F;have s:=l (q2 f c h a b o u w (l q) (l (m.out.more (Below.kept d []) F F)));clear q;go_wp2_with fail;refine s.out.mono ?_;rintro k A ⟨rfl,v⟩;have n:=d.trans (v.mono d.size);have d27:=(g.out.more (Below.kept n []) F).XB;go_wp2_with fail;refine(i.out _).mono ?_;rintro k w3 ⟨rfl,rfl⟩;go_wp2_with fail;go_ret;exact⟨rfl,n⟩
def acQ (g f i:Nat)(c:Q)(e:P)(n:ay c)(p:c.soft<=546)(o:e.enable<8)(d:D)(h:Hid (T d g f c))(m:Hid (ap d f i e)):
 ac 253 #[I g,j 384] (j ((c.Wf:Nat):Int)) d:=by
 have q:=h.out.V8;have k:=l (dh f i e d m);go_enter dj,dk;go_wp2_with fail;refine k.out.mono ?_;rintro r s ⟨rfl,a⟩;have b:=h.out.more (Below.kept a []) F;have d31:=b.X6;exact ej
def acN (g d k:Nat)(c:Q)(f:P)(n:ay c)(r:c.soft<=546)(q:f.enable<8)(e:D)(h:Hid (T e g d c))(o:Hid (ap e d k f)):
 ac 253 #[I g,j 768] (j ((fw c:Nat):Int)) e:=by
 have t:=h.out.V8;have m:=l (dh d k f e o);go_enter dj,dk;go_wp2_with fail;refine m.out.mono ?_;rintro u p ⟨rfl,b⟩;have a:=h.out.more (Below.kept b []) F;have i:=l (E6 g d c n p (l a));exact z9
def acL (k f g:Nat)(c:Q)(e:P)(m:ay c)(o:c.soft<=546)(n:e.enable<8)(d:D)(h:Hid (T d k f c))(i:Hid (ap d f g e)):
 ac 253 #[I k,j 769] (j ((1075056901:Nat):Int)) d:=vK
def acE (g f i:Nat)(c:Q)(e:P)(n:ay c)(p:c.soft<=546)(o:e.enable<8)(d:D)(h:Hid (T d g f c))(m:Hid (ap d f i e)):
 ac 253 #[I g,j 770] (j ((c.WG:Nat):Int)) d:=by
 have q:=h.out.V8;have k:=l (dh f i e d m);go_enter dj,dk;go_wp2_with fail;refine k.out.mono ?_;rintro r s ⟨rfl,a⟩;have b:=h.out.more (Below.kept a []) F;have d26:=b.Yl;exact ej
def acG (g f i:Nat)(c:Q)(e:P)(n:ay c)(p:c.soft<=546)(o:e.enable<8)(d:D)(h:Hid (T d g f c))(m:Hid (ap d f i e)):
 ac 253 #[I g,j 771] (j ((c.V9:Nat):Int)) d:=by
 have q:=h.out.V8;have k:=l (dh f i e d m);go_enter dj,dk;go_wp2_with fail;refine k.out.mono ?_;rintro r s ⟨rfl,a⟩;have b:=h.out.more (Below.kept a []) F;have d27:=b.XB;exact ej
def acH (g f i:Nat)(c:Q)(e:P)(n:ay c)(p:c.soft<=546)(o:e.enable<8)(d:D)(h:Hid (T d g f c))(m:Hid (ap d f i e)):
 ac 253 #[I g,j 772] (j ((c.enable:Nat):Int)) d:=by
 have q:=h.out.V8;have k:=l (dh f i e d m);go_enter dj,dk;go_wp2_with fail;refine k.out.mono ?_;rintro r s ⟨rfl,a⟩;have b:=h.out.more (Below.kept a []) F;have d28:=b.XI;exact ej
def acP (g f i:Nat)(c:Q)(e:P)(n:ay c)(p:c.soft<=546)(o:e.enable<8)(d:D)(h:Hid (T d g f c))(m:Hid (ap d f i e)):
 ac 253 #[I g,j 773] (j ((c.Wz:Nat):Int)) d:=by
 have q:=h.out.V8;have k:=l (dh f i e d m);go_enter dj,dk;go_wp2_with fail;refine k.out.mono ?_;rintro r s ⟨rfl,a⟩;have b:=h.out.more (Below.kept a []) F;have d14:=b.Yd;exact ej
def acA (g f i:Nat)(c:Q)(e:P)(n:ay c)(p:c.soft<=546)(o:e.enable<8)(d:D)(h:Hid (T d g f c))(m:Hid (ap d f i e)):
 ac 253 #[I g,j 774] (j ((c.Wp:Nat):Int)) d:=by
 have q:=h.out.V8;have k:=l (dh f i e d m);go_enter dj,dk;go_wp2_with fail;refine k.out.mono ?_;rintro r s ⟨rfl,a⟩;have b:=h.out.more (Below.kept a []) F;have d19:=b.Yg;exact ej
def acB (g f i:Nat)(c:Q)(e:P)(n:ay c)(p:c.soft<=546)(o:e.enable<8)(d:D)(h:Hid (T d g f c))(m:Hid (ap d f i e)):
 ac 253 #[I g,j 800] (j ((c.Xf:Nat):Int)) d:=by
 have q:=h.out.V8;have k:=l (dh f i e d m);go_enter dj,dk;go_wp2_with fail;refine k.out.mono ?_;rintro r s ⟨rfl,a⟩;have b:=h.out.more (Below.kept a []) F;have d30:=b.Ym;exact ej
def acM (g f i:Nat)(c:Q)(e:P)(n:ay c)(p:c.soft<=546)(o:e.enable<8)(d:D)(h:Hid (T d g f c))(m:Hid (ap d f i e)):
 ac 253 #[I g,j 832] (j ((c.WK:Nat):Int)) d:=by
 have q:=h.out.V8;have k:=l (dh f i e d m);go_enter dj,dk;go_wp2_with fail;refine k.out.mono ?_;rintro r s ⟨rfl,a⟩;have b:=h.out.more (Below.kept a []) F;have d15:=b.Ys;exact ej
def acF (g f i:Nat)(c:Q)(e:P)(n:ay c)(p:c.soft<=546)(o:e.enable<8)(d:D)(h:Hid (T d g f c))(m:Hid (ap d f i e)):
 ac 253 #[I g,j 833] (j ((c.Wm:Nat):Int)) d:=by
 have q:=h.out.V8;have k:=l (dh f i e d m);go_enter dj,dk;go_wp2_with fail;refine k.out.mono ?_;rintro r s ⟨rfl,a⟩;have b:=h.out.more (Below.kept a []) F;have d16:=b.X3;exact ej
def acz (g f i:Nat)(c:Q)(e:P)(n:ay c)(p:c.soft<=546)(o:e.enable<8)(d:D)(h:Hid (T d g f c))(m:Hid (ap d f i e)):
 ac 253 #[I g,j 834] (j ((c.Wx:Nat):Int)) d:=by
 have q:=h.out.V8;have k:=l (dh f i e d m);go_enter dj,dk;go_wp2_with fail;refine k.out.mono ?_;rintro r s ⟨rfl,a⟩;have b:=h.out.more (Below.kept a []) F;have d17:=b.Ye;exact ej
def acO (g f i:Nat)(c:Q)(e:P)(n:ay c)(p:c.soft<=546)(o:e.enable<8)(d:D)(h:Hid (T d g f c))(m:Hid (ap d f i e)):
 ac 253 #[I g,j 835] (j ((c.WB:Nat):Int)) d:=by
 have q:=h.out.V8;have k:=l (dh f i e d m);go_enter dj,dk;go_wp2_with fail;refine k.out.mono ?_;rintro r s ⟨rfl,a⟩;have b:=h.out.more (Below.kept a []) F;have d18:=b.Yf;exact ej
def acK (g e h:Nat)(d:Q)(c:P)(r:ay d)(p:d.soft<=546)(o:c.enable<8)(f:D)(m:Hid (T f g e d))(k:Hid (ap f e h c)):
 ac 253 #[I g,j 836] (j ((bQ d c:Nat):Int)) f:=by
 have t:=m.out.V8;have n:=l (dh e h c f k);go_enter dj,dk;go_wp2_with fail;refine n.out.mono ?_;rintro u q ⟨rfl,b⟩;have a:=m.out.more (Below.kept b []) F;have i:=l (q2 g e h d c p o q (l a) (l (k.out.more (Below.kept b []) F F)));exact z9
def acC (i e g:Nat)(f:Q)(d:P)(m:ay f)(o:f.soft<=546)(n:d.enable<8)(c:D)(h:Hid (T c i e f))(k:Hid (ap c e g d)):
 ac 253 #[I i,j 2816] (j ((f.Wa:Nat):Int)) c:=Jq
def acv (i e g:Nat)(f:Q)(d:P)(m:ay f)(o:f.soft<=546)(n:d.enable<8)(c:D)(h:Hid (T c i e f))(k:Hid (ap c e g d)):
 ac 253 #[I i,j 3072] (j ((f.Wa:Nat):Int)) c:=Jq
def acD (i e g:Nat)(f:Q)(d:P)(m:ay f)(o:f.soft<=546)(n:d.enable<8)(c:D)(h:Hid (T c i e f))(k:Hid (ap c e g d)):
 ac 253 #[I i,j 2944] (j ((f.Wg:Nat):Int)) c:=Jr
def acw (i e g:Nat)(f:Q)(d:P)(m:ay f)(o:f.soft<=546)(n:d.enable<8)(c:D)(h:Hid (T c i e f))(k:Hid (ap c e g d)):
 ac 253 #[I i,j 3200] (j ((f.Wg:Nat):Int)) c:=Jr
def acI (i e g:Nat)(f:Q)(d:P)(m:ay f)(o:f.soft<=546)(n:d.enable<8)(c:D)(h:Hid (T c i e f))(k:Hid (ap c e g d)):
 ac 253 #[I i,j 2818] (j ((f.ret:Nat):Int)) c:=Js
def acx (i e g:Nat)(f:Q)(d:P)(m:ay f)(o:f.soft<=546)(n:d.enable<8)(c:D)(h:Hid (T c i e f))(k:Hid (ap c e g d)):
 ac 253 #[I i,j 3074] (j ((f.ret:Nat):Int)) c:=Js
def acJ (i e g:Nat)(f:Q)(d:P)(m:ay f)(o:f.soft<=546)(n:d.enable<8)(c:D)(h:Hid (T c i e f))(k:Hid (ap c e g d)):
 ac 253 #[I i,j 2946] (j ((f.We:Nat):Int)) c:=Jt
def acy (i e g:Nat)(f:Q)(d:P)(m:ay f)(o:f.soft<=546)(n:d.enable<8)(c:D)(h:Hid (T c i e f))(k:Hid (ap c e g d)):
 ac 253 #[I i,j 3202] (j ((f.We:Nat):Int)) c:=Jt
def ac0 (k f g:Nat)(c:Q)(e:P)(m:ay c)(o:c.soft<=546)(n:e.enable<8)(d:D)(h:Hid (T d k f c))(i:Hid (ap d f g e)):
 ac 253 #[I k,j 3073] (j ((e.time:Nat):Int)) d:=vK
def ac1 (k f g:Nat)(c:Q)(e:P)(m:ay c)(o:c.soft<=546)(n:e.enable<8)(d:D)(h:Hid (T d k f c))(i:Hid (ap d f g e)):
 ac 253 #[I k,j 3201] (j ((e.Wh:Nat):Int)) d:=vK
def ac2 (k f g:Nat)(m:Q)(e:P)(c:Int)(n:(c==256)=false)(o:(c==260)=false)(z:(c==261)=false)(N:(c==262)=false)(U:(c==320)=false)(V:(c==321)=false)(W:(c==322)=false)(X:(c==323)=false)(Y:(c==324)=false)(Z:(c==384)=false)(p:(c==768)=false)(q:(c==769)=false)(r:(c==770)=false)(s:(c==771)=false)(t:(c==772)=false)(u:(c==773)=false)(v:(c==774)=false)(w:(c==800)=false)(x:(c==832)=false)(y:(c==833)=false)(A:(c==834)=false)(B:(c==835)=false)(C:(c==836)=false)(E:(c==2816)=false)(G:(c==3072)=false)(H:(c==2944)=false)(J:(c==3200)=false)(K:(c==2818)=false)(L:(c==3074)=false)(M:(c==2946)=false)(O:(c==3202)=false)(R:(c==3073)=false)(S:(c==3201)=false)(d:D)(h:Hid (T d k f m))(i:Hid (ap d f g e)):
 ac 253 #[I k,j c] (j 0) d:=vK
def yg (e d g:Nat)(a:Q)(b:P)(k:ay a)(m:a.soft<=546)(l:b.enable<8)(f:Int)(c:D)(i:Hid (T c e d a))(h:Hid (ap c d g b)):
 ac 253 #[I e,j f] (j (bB a b f)) c:=by
 unfold bB;by_cases n:f=256
 . subst n;rw[B rfl];exact acX e d g a b k m l c i h
 rw[z n];by_cases o:f=260
 . subst o;rw[B rfl];exact acU e d g a b k m l c i h
 rw[z o];by_cases A:f=261
 . subst A;rw[B rfl];exact acZ e d g a b k m l c i h
 rw[z A];by_cases O:f=262
 . subst O;rw[B rfl];exact acS e d g a b k m l c i h
 rw[z O];by_cases V:f=320
 . subst V;rw[B rfl];exact acW e d g a b k m l c i h
 rw[z V];by_cases W:f=321
 . subst W;rw[B rfl];exact acT e d g a b k m l c i h
 rw[z W];by_cases X:f=322
 . subst X;rw[B rfl];exact acR e d g a b k m l c i h
 rw[z X];by_cases Y:f=323
 . subst Y;rw[B rfl];exact acY e d g a b k m l c i h
 rw[z Y];by_cases Z:f=324
 . subst Z;rw[B rfl];exact acV e d g a b k m l c i h
 rw[z Z];by_cases aa:f=384
 . subst aa;rw[B rfl];exact acQ e d g a b k m l c i h
 rw[z aa];by_cases p:f=768
 . subst p;rw[B rfl];exact acN e d g a b k m l c i h
 rw[z p];by_cases q:f=769
 . subst q;rw[B rfl];exact acL e d g a b k m l c i h
 rw[z q];by_cases r:f=770
 . subst r;rw[B rfl];exact acE e d g a b k m l c i h
 rw[z r];by_cases s:f=771
 . subst s;rw[B rfl];exact acG e d g a b k m l c i h
 rw[z s];by_cases t:f=772
 . subst t;rw[B rfl];exact acH e d g a b k m l c i h
 rw[z t];by_cases u:f=773
 . subst u;rw[B rfl];exact acP e d g a b k m l c i h
 rw[z u];by_cases v:f=774
 . subst v;rw[B rfl];exact acA e d g a b k m l c i h
 rw[z v];by_cases w:f=800
 . subst w;rw[B rfl];exact acB e d g a b k m l c i h
 rw[z w];by_cases x:f=832
 . subst x;rw[B rfl];exact acM e d g a b k m l c i h
 rw[z x];by_cases y:f=833
 . subst y;rw[B rfl];exact acF e d g a b k m l c i h
 rw[z y];by_cases C:f=834
 . subst C;rw[B rfl];exact acz e d g a b k m l c i h
 rw[z C];by_cases E:f=835
 . subst E;rw[B rfl];exact acO e d g a b k m l c i h
 rw[z E];by_cases F:f=836
 . subst F;rw[B rfl];exact acK e d g a b k m l c i h
 rw[z F];by_cases G:f=2816
 . subst G;rw[B rfl];exact acC e d g a b k m l c i h
 rw[z G];by_cases H:f=3072
 . subst H;rw[B rfl];exact acv e d g a b k m l c i h
 rw[z H];by_cases J:f=2944
 . subst J;rw[B rfl];exact acD e d g a b k m l c i h
 rw[z J];by_cases K:f=3200
 . subst K;rw[B rfl];exact acw e d g a b k m l c i h
 rw[z K];by_cases L:f=2818
 . subst L;rw[B rfl];exact acI e d g a b k m l c i h
 rw[z L];by_cases M:f=3074
 . subst M;rw[B rfl];exact acx e d g a b k m l c i h
 rw[z M];by_cases N:f=2946
 . subst N;rw[B rfl];exact acJ e d g a b k m l c i h
 rw[z N];by_cases R:f=3202
 . subst R;rw[B rfl];exact acy e d g a b k m l c i h
 rw[z R];by_cases S:f=3073
 . subst S;rw[B rfl];exact ac0 e d g a b k m l c i h
 rw[z S];by_cases U:f=3201
 . subst U;rw[B rfl];exact ac1 e d g a b k m l c i h
 rw[z U];exact ac2 e d g a b f (by simp[n]) (by simp[o]) (by simp[A]) (by simp[O]) (by simp[V]) (by simp[W]) (by simp[X]) (by simp[Y]) (by simp[Z]) (by simp[aa]) (by simp[p]) (by simp[q]) (by simp[r]) (by simp[s]) (by simp[t]) (by simp[u]) (by simp[v]) (by simp[w]) (by simp[x]) (by simp[y]) (by simp[C]) (by simp[E]) (by simp[F]) (by simp[G]) (by simp[H]) (by simp[J]) (by simp[K]) (by simp[L]) (by simp[M]) (by simp[N]) (by simp[R]) (by simp[S]) (by simp[U]) c i h
theorem ae0 {c:P}(e:aS c)(f:Int)(d:Nat)(b:G d):aS (eP c f d):=by
 have a:=e;unfold eP;repeat' split
 all_goals first
  |exact e
  |exact⟨a.o,by show _%_<_;omega,a.time,a.Wh,a.cmp,a.Wv,a.enable,a.Wr,a.rx,a.Wc⟩
  |exact⟨a.o,a.Wj,a.time,a.Wh,b,a.Wv,a.enable,a.Wr,a.rx,a.Wc⟩
  |exact⟨a.o,a.Wj,a.time,a.Wh,a.cmp,b,a.enable,a.Wr,a.rx,a.Wc⟩
  |exact⟨a.o,a.Wj,b,a.Wh,a.cmp,a.Wv,a.enable,a.Wr,a.rx,a.Wc⟩
  |exact⟨a.o,a.Wj,a.time,b,a.cmp,a.Wv,a.enable,a.Wr,a.rx,a.Wc⟩
  |exact⟨a.o,a.Wj,a.time,a.Wh,a.cmp,a.Wv,by show _%_<_;omega,a.Wr,a.rx,a.Wc⟩
  |exact⟨a.o,a.Wj,a.time,a.Wh,a.cmp,a.Wv,a.enable,by show _%_<_;omega,a.rx,a.Wc⟩
  | (refine⟨a.o,a.Wj,a.time,a.Wh,a.cmp,a.Wv,a.enable,a.Wr,a.rx,?_⟩
     show(c.Wc++strOfNums (b3 d 1)).size<=8;rw[fl,oe,kS];omega)
def ae1 (a:P)(b:Int)(c:Nat):(eP a b c).o=a.o:=by
 unfold eP;repeat' split
 all_goals rfl
def tC {b:P}(a:aS b){r:List L}(c:r.length=b.o.length):aS {b with o:=r}:=⟨by show r.length<=_;rw[c];exact a.o,a.Wj,a.time,a.Wh,a.cmp,a.Wv,a.enable,a.Wr,a.rx,a.Wc⟩
def oq {c:P}(a:aS c)(d f:Int)(b:Nat)(e:G b):aS (cg c d f b):=by
 unfold cg;split
 . exact tC a (mz _ _ _ _)
 . split
   . exact ae0 a d b e
   . exact a
def aeZ (a:P)(c b:Int)(d:Nat):(cg a c b d).o.length=a.o.length:=by
 unfold cg;split
 . exact mz _ _ _ _
 . split
   . rw[ae1]
   . rfl
theorem Ut {b:P}(c:aS b)(d:Int):aS (dv b d).2:=by
 have a:=c;unfold dv;repeat' split
 all_goals first
  |exact c
  |exact⟨a.o,a.Wj,a.time,a.Wh,a.cmp,a.Wv,a.enable,a.Wr,by show(b.rx.extract 1 b.rx.size).size<=4;rw[ByteArray.size_extract];have:=a.rx;omega,a.Wc⟩
  |exact⟨a.o,a.Wj,a.time,a.Wh,a.cmp,a.Wv,a.enable,a.Wr,a.rx,a.Wc⟩
def Uu (a:P)(b:Int):(dv a b).2.o=a.o:=by
 unfold dv;repeat' split
 all_goals rfl
def jl {b:P}(a:aS b)(c d:Int):aS (a9 b c d).2:=by
 unfold a9;split
 . exact a
 . split
   . exact Ut a c
   . exact a
def Dv (a:P)(c b:Int):(a9 a c b).2.o.length=a.o.length:=by
 unfold a9;split
 . rfl
 . split
   . rw[Uu]
   . rfl
def tq (b:P)(p a:Nat):cb b p a<256^a:=by
 unfold cb;have c:=qo ((b.o.drop p).take a);have d:((b.o.drop p).take a).length<=a:=M;exact aQ c (cV m d)
def aeK (a:P):eO a<256:=by
 unfold eO;exact sm
def Vo (a:P):hV a<256:=by
 unfold hV;exact sm
def iD {a:P}(n:aS a)(d:Int)(c:Nat)(r:1<=c):(a9 a d c).1<256^c:=by
 have b:=n;unfold a9;split
 . rw[dp];exact tq _ _ _
 . rename_i l;split
   . rename_i m;have g:aZ d c a.o.length=false:=by simpa using l
     rcases x2 g m with⟨f,o⟩|⟨e,o⟩
     . have q:c=4:=J;subst q;have h:=b.Wj;have i:=b.cmp;have j:=b.Wv;have k:=b.time;have s:=b.Wh;unfold eK at f;simp at f;show(dv a d).1<4294967296;rcases f with rfl|rfl|rfl|rfl|rfl<;>simp[dv]<;>omega
     . have p:c=1:=J;subst p;have h:=b.enable;have i:=b.Wr;have j:=aeK a;have k:=Vo a;unfold ep at e;simp at e;show(dv a d).1<256;rcases e with rfl|rfl|rfl|rfl|rfl
       . simp only[dv];simp;split
         . exact UInt8.toNat_lt _
         . omega
       all_goals (simp[dv];omega)
   . exact uA F
theorem CO {a:P}(b:aS a)(c:Q)(e d g h f mode:Nat):aS (fN a c e d g h f mode).2:=by
 unfold fN;repeat' split
 all_goals first
  |exact b
  |exact tC b (mz _ _ _ _)
theorem CM (a:P)(b:Q)(d c f g e mode:Nat):(fN a b d c f g e mode).2.o.length=a.o.length:=by
 unfold fN;repeat' split
 all_goals first
  |rfl
  |exact mz _ _ _ _
def CN (d:P)(e:Q)(a f b c g mode:Nat)(h:G a):(fN d e a f b c g mode).1.1<17184063488/\(fN d e a f b c g mode).1.2<=2:=by
 have i:c%gF b<4194304:=by
  unfold gF;split<;>omega
 unfold fN;exact Ae
theorem aeD {a:P}(b:aS a)(c:Q)(e f d mode:Nat):aS (fX a c e f d mode).2:=by
 unfold fX;repeat' split
 all_goals first
  |exact b
  |exact CO b _ _ _ _ _ _ _
theorem aeB (a:P)(b:Q)(d e c mode:Nat):(fX a b d e c mode).2.o.length=a.o.length:=by
 unfold fX;repeat' split
 all_goals first
  |rfl
  |exact CM _ _ _ _ _ _ _ _
theorem aeC (a:P)(b:Q)(d e c mode:Nat):(fX a b d e c mode).1.1<17184063488/\(fX a b d e c mode).1.2<=2:=by
 unfold fX;repeat' split
 all_goals first
  |exact CN _ _ _ _ _ _ _ _ (nJ _ _)
  |exact⟨by dsimp only;omega,by dsimp only;omega⟩
theorem aeG {b:P}(a:aS b)(c:Q)(e f d mode:Nat):aS (fB b c e f d mode).2:=by
 unfold fB;repeat' split
 all_goals first
  |exact a
  |exact CO a _ _ _ _ _ _ _
  |exact aeD a _ _ _ _ _
theorem aeE (a:P)(b:Q)(d e c mode:Nat):(fB a b d e c mode).2.o.length=a.o.length:=by
 unfold fB;repeat' split
 all_goals first
  |rfl
  |exact CM _ _ _ _ _ _ _ _
  |exact aeB _ _ _ _ _ _
theorem aeF (a:P)(b:Q)(d e c mode:Nat):(fB a b d e c mode).1.1<17184063488/\(fB a b d e c mode).1.2<=2:=by
 unfold fB;repeat' split
 all_goals first
  |exact CN _ _ _ _ _ _ _ _ (nJ _ _)
  |exact aeC _ _ _ _ _ _
  |exact⟨by dsimp only;omega,by dsimp only;omega⟩
def hQ (a:Q)(b:Nat):Bool:=if decide (cv a b<3)=true then decide (2147483648<=a.Wf)else false
def a2 (c:P)(a:Q)(d b:Nat):(Nat×Nat)×P:=if hQ a b=true then fB c a (a.Wf%4194304*4096) d b (cv a b)else((d,0),c)
def fz {a:P}(b:aS a)(c:Q)(e d:Nat):aS (a2 a c e d).2:=by
 unfold a2;split
 . exact aeG b _ _ _ _ _
 . exact b
def tM (a:P)(b:Q)(d c:Nat):(a2 a b d c).2.o.length=a.o.length:=by
 unfold a2;split
 . exact aeE _ _ _ _ _ _
 . rfl
def fV (b:P)(c:Q)(a d:Nat)(e:G a):(a2 b c a d).1.1<17184063488/\(a2 b c a d).1.2<=2:=by
 unfold a2;split
 . exact aeF _ _ _ _ _ _
 . exact pL
def nN (a:(Nat×Nat)×P):(Nat×Nat)×P:=
 if a.1.2=0 then(if aZ (a.1.1:Nat) 2 a.2.o.length=true then((cb a.2 (a.1.1-2147483648) 2,0),a.2)else((0,2),a.2))else((0,a.1.2),a.2)
def cj (a:P)(b:Q)(c:Nat):(Nat×Nat)×P:=nN (a2 a b c 0)
def nO {a:P}(d:aS a)(b:Q)(c:Nat):aS (cj a b c).2:=by
 have:=fz d b c 0;unfold cj nN;exact Af
def sZ (b:P)(c:Q)(a:Nat)(d:G a):(cj b c a).1.1<65536/\(cj b c a).1.2<=2:=by
 have e:=(fV b c a 0 d).2;unfold cj nN;repeat' split
 . have f:=tq (a2 b c a 0).2 ((a2 b c a 0).1.1-2147483648) 2;exact pL
 . exact pL
 . exact⟨by dsimp only;omega,e⟩
def iO (a:(Nat×Nat)×P):(Nat×Nat)×P:=
 if a.1.2=0 then(if aZ (a.1.1:Nat) 4 a.2.o.length=true then a else((0,2),a.2))else a
def cS (a:P)(b:Q)(d c:Nat):(Nat×Nat)×P:=iO (a2 a b d c)
def yj {a:P}(e:aS a)(b:Q)(d c:Nat):aS (cS a b d c).2:=by
 have:=fz e b d c;unfold cS iO;exact Af
def Fh (b:P)(c:Q)(a d:Nat)(f:G a):(cS b c a d).1.1<17184063488/\(cS b c a d).1.2<=2:=by
 have e:=fV b c a d f;unfold cS iO;repeat' split
 . exact e
 . exact pL
 . exact e
def aeL (c:P)(d:Q)(g f:Nat)(a:(cS c d g f).1.2=0):aZ ((cS c d g f).1.1:Nat) 4 (cS c d g f).2.o.length=true:=by
 unfold cS iO at a|-;split
 . rename_i b;split
   . rename_i e;exact e
   . rename_i e;rw[B b,z e]at a;simp at a
 . rename_i b;rw[z b]at a;exact absurd a b
structure dG where
 Xd:Nat
 WO:Nat
 Xr:Nat
 Xg:Nat
 fault:Nat
 XF:Nat
def jo (a:dG):Value:=.agg #[j a.Xd,j a.WO,j a.Xr,j a.Xg,j a.fault,j a.XF]
def gC (b a:Nat):Nat:=if 4096-b%4096<a then 4096-b%4096 else a
def mq (e b c d:Nat)(a:(Nat×Nat)×P):dG×P:=
 if a.1.2=0 then(if bD (a.1.1:Nat) ((c-b:Nat):Int) a.2.o.length=true then(⟨e,b,a.1.1,c-b,0,0⟩,a.2)else(⟨0,0,0,0,2,d⟩,a.2))else(⟨0,0,0,0,a.1.2,d⟩,a.2)
def j2 (e:Q)(c d f b:Nat)(a:(Nat×Nat)×P):dG×P:=
 if a.1.2=0 then(if bD (a.1.1:Nat) (b:Nat) a.2.o.length=true then
  (if b<d then mq a.1.1 b d ((c+b)%4294967296) (a2 a.2 e ((c+b)%4294967296) f)else(⟨a.1.1,b,0,0,0,0⟩,a.2))
  else(⟨0,0,0,0,2,c⟩,a.2))else(⟨0,0,0,0,a.1.2,c⟩,a.2)
def a1 (e:P)(b:Q)(a d c:Nat):dG×P:=j2 b a d c (gC a d) (a2 e b a c)
def hk {d:P}(h:aS d)(b:Q)(a f c:Nat):aS (a1 d b a f c).2:=by
 have e:=fz h b a c;have g:=fz e b ((a+gC a f)%4294967296) c;unfold a1 j2 mq;repeat' split
 all_goals first|exact e|exact g
def k1 (b:P)(c:Q)(a f d:Nat):(a1 b c a f d).2.o.length=b.o.length:=by
 have e:=tM b c a d;have g:=tM (a2 b c a d).2 c ((a+gC a f)%4294967296) d;unfold a1 j2 mq;repeat' split
 all_goals first|exact e|exact g.trans e
structure wn (a:dG)(b:Nat):Prop where
 Xd:a.Xd<17184063488
 Xr:a.Xr<17184063488
 fault:a.fault<=2
 XF:a.XF<4294967296
 WO:a.fault=0->1<=a.WO
 sum:a.fault=0->a.WO+a.Xg=b
 le:a.WO+a.Xg<=b
def hl (e:P)(c:Q)(a b d:Nat)(j:G a)(l:1<=b):wn (a1 e c a b d).1 b:=by
 have k:=fV e c a d j;have i:1<=gC a b/\gC a b<=b:=AN;have f:(a+gC a b)%4294967296<4294967296:=J;have g:=fV (a2 e c a d).2 c ((a+gC a b)%4294967296) d f;unfold a1 j2 mq;obtain⟨m,h⟩:=y (gC a b);rw[<-h]at i f g|-;repeat' split
 all_goals exact⟨by dsimp only;omega,by dsimp only;omega,by dsimp only;omega,by dsimp only;omega,by dsimp only;omega,by dsimp only;omega,by dsimp only;omega⟩
def dT (b:P)(a:dG):Nat×P:=
 if 0<a.Xg then((a9 b a.Xd a.WO).1+(a9 (a9 b a.Xd a.WO).2 a.Xr a.Xg).1*256^a.WO,(a9 (a9 b a.Xd a.WO).2 a.Xr a.Xg).2)else a9 b a.Xd a.WO
def SD {a:P}(b:aS a)(c:dG):aS (dT a c).2:=by
 unfold dT;split
 . exact jl (jl b _ _) _ _
 . exact jl b _ _
def xk {c:P}(h:aS c)(a:dG)(k:1<=a.WO):(dT c a).1<256^(a.WO+a.Xg):=by
 have e:=iD h a.Xd a.WO k;unfold dT;split
 . rename_i g;have f:=iD (jl h a.Xd a.WO) a.Xr a.Xg g;dsimp only;rw[oA];obtain⟨j,m⟩:=y ((a9 c a.Xd a.WO).1);obtain⟨d,n⟩:=y ((a9 (a9 c a.Xd a.WO).2 a.Xr a.Xg).1);rw[<-m]at e|-;rw[<-n]at f|-;obtain⟨b,o⟩:=y (256^a.WO);obtain⟨i,p⟩:=y (256^a.Xg);rw[<-o]at e|-;rw[<-p]at f|-;calc j+d*b<b+d*b:=by omega
    _=(d+1)*b:=by rw[Nat.add_mul];omega
    _<=i*b:=kd _ f
    _=b*i:=fk _ _
 . rename_i g;have l:a.Xg=0:=J;rw[l];exact e
def iG (c:P)(a:dG)(b:Nat):P:=if 0<a.Xg then cg (cg c a.Xd a.WO b) a.Xr a.Xg (b/256^a.WO)else cg c a.Xd a.WO b
def Vs {c:P}(d:aS c)(e:dG)(b:Nat)(a:G b):aS (iG c e b):=by
 have f:b/256^e.WO<4294967296:=bJ (lq _ _) a;unfold iG;split
 . exact oq (oq d _ _ _ a) _ _ _ f
 . exact oq d _ _ _ a
end Go.Proofs.YtmlgonbhoknoiabGreatDoor
