import Derived.Test.YtmlgonbhoknoiaaGreatDoorJAS
set_option maxHeartbeats 8000000
set_option maxRecDepth 100000
set_option linter.all false
namespace Go.Proofs.YtmlgonbhoknoiaaGreatDoor
open Go.RowKit Go.Proofs.Tryz
section
attribute [local go_sem ↓] Go.wp_at_zero Go.wp_at_succ
def ac6 (h q d k v:Nat)(a:ai)(N:ey a)(i:ak)(a1:aU i)(bB:61<=i.op/\i.op<=66)(bw:0<=i.V2)(bx:i.V2<=4095)(H:Nat)(a3:kG a i<4294967296)(aw:gt a.f a.b i.V2<4294967296)(n:D)(X:Hid (V n h q d k v a)):
 Calls prog 400 #[I h,ag i,j H] n fun bG o=>bG=.returned (cz (is a i H).1)/\V o h q d k v (is a i H).2/\Kept [d,k] n o:=by
 obtain⟨e,p,f,x,b,s⟩:=i;obtain⟨aF,a6,-,-,-,bE⟩:=id a1;dsimp only at bB bE aF a6 bw bx aw;obtain⟨b,rfl⟩:∃bF:Nat,b=bF:=⟨b.toNat,by omega⟩;have bA:b<=4095:=J;have bZ:=X.out.lt;have b0:=X.out.Wt.lt;have b1:=X.out.Wt.Ww;have b2:=X.out.Xc;have b3:=X.out.WW.lt;have bW:=N.V3;have bC:=N.WE f;have af:=N.f;have bX:(0:Int)<=(f:Int):=J;have bY:(f:Int)<32:=J;have K:=l ((X.out.alloc (.cells #[j e,j p,j f,j x,j b,j s] 53)).alloc (.cells #[j 0,j 0,j 0] 245));have c:=(bg.new n [j e,j p,j f,j x,j b,j s] 53).alloc (.cells #[j 0,j 0,j 0] 245);have Z:=bg.Yo n (.cells #[j e,j p,j f,j x,j b,j s] 53) [j 0,j 0,j 0] 245;have Y:Kept [d,k] n ((n.alloc (.cells #[j e,j p,j f,j x,j b,j s] 53)).alloc (.cells #[j 0,j 0,j 0] 245)):=o9;have S:=K.out.XM f a6;obtain⟨bv,g⟩:=y (fun av o=>av=.returned (cz (is a ⟨e,p,f,x,(b:Int),s⟩ H).1)/\V o h q d k v (is a ⟨e,p,f,x,(b:Int),s⟩ H).2/\Kept [d,k] n o:Ending->D->Prop);rw[<-g];have aK:∀av o,av=.returned (cz (is a ⟨e,p,f,x,(b:Int),s⟩ H).1)/\V o h q d k v (is a ⟨e,p,f,x,(b:Int),s⟩ H).2/\Kept [d,k] n o->bv av o:=m3;obtain⟨⟨⟨aT,aV,aW⟩,ar⟩,w⟩:∃bu,bu=is a ⟨e,p,f,x,(b:Int),s⟩ H:=⟨_,rfl⟩;rw[<-w]at aK;have bK:=l (mF 2 H);have bf:=l (oh ((a.V3:Int)+s));have b6:=fk ((a.V3:Int)+s) m;unfold cz gC at *;unfold is at w;dsimp only at w aK;rw[show((b:Int)).toNat=b by simp]at w;obtain⟨C,bH⟩:=fH (((f:Int) !=0));obtain⟨O,aD⟩:=y (cW ⟨e,p,f,x,(b:Int),s⟩);have aZ:O=true↔e=61\/e=64\/C=true:=by rw[aD,<-bH];unfold cW;simp
 rw[<-aD]at w;have aJ:=l (fun W (t:V W h q d k v a)=>acx d q a.f af b bA O W (l t.WW));obtain⟨bd,a2⟩:=y (nU a.f b O);simp only[<-a2]at aJ w;have aR:=l (fun W (t:V W h q d k v a)=>xU d q v a.f a.b af N.soft N.b.enable (b:Int) W (l t.WW) (l t.Wt));have aQ:=l (fun W (t:V W h q d k v a)=>abJ d q v a.f a.b af N.soft N.b.enable (b:Int) W (l t.WW) (l t.Wt));obtain⟨aC,a4⟩:=y (bD a.f a.b (b:Int));simp only[<-a4]at aR w;obtain⟨a7,r⟩:=y (kG a ⟨e,p,f,x,(b:Int),s⟩);rw[<-r]at a3 w;have bL:=l (fun W (t:V W h q d k v a)=>adK d q a.f af (b:Int) a7 a3 W (l t.WW));unfold kG nz at r;dsimp only at r;obtain⟨aG,aE⟩:∃bI,bI=a.x.getD f 0:=⟨_,rfl⟩;rw[<-aE]at bC S;simp only[<-aE]at r;obtain⟨ah,E⟩:=fH ((if e<=63 then aG else f));have a5:G ah:=by rw[<-E];split<;>omega
 rw[E]at r;obtain⟨au,aY⟩:=y (gt a.f a.b (b:Int));simp only[<-aY]at aQ r aw;have bh:=l (xP au ah aw a5);have bj:=l (tv au ah aw a5);generalize au |||ah=b4 at *;generalize aI au ah=b5 at *;obtain⟨bk,a0⟩:=y (am ((a.V3:Int)+s));simp only[<-a0]at bf w;have bi:=l (fun W t=>qN h q d k v {a with f:=cf a.f (b:Int) a7} p aF (aC:Int) W t);have bt:=l (fun W t=>qN h q d k v a p aF (aC:Int) W t);clear g N a1 af aE aY a4 a0 a2 aD;have bz:(e=61\/e=62/\C=true\/e=63/\C=true)/\O=true\/(e=62/\C=false\/e=63/\C=false)/\O=false\/(e=64\/e=65/\C=true\/e=66/\C=true)/\O=true\/(e=65/\C=false\/e=66/\C=false)/\O=false:=by cases C<;>cases O<;>simp at aZ|- <;>omega
 clear aZ;unfold ag;dsimp only;rcases bz with⟨Q,rfl⟩|⟨Q,rfl⟩|⟨Q,rfl⟩|⟨Q,rfl⟩
 . rcases Q with rfl|⟨rfl,rfl⟩|⟨rfl,rfl⟩;all_goals
    simp at r E;subst r E;have aj:=c.cell 0 _ rfl;have al:=c.cell 1 _ rfl;have an:=c.cell 2 _ rfl;have ao:=c.cell 3 _ rfl;have ap:=c.cell 4 _ rfl;have aq:=c.cell 5 _ rfl;go_enter func400,ntmps400;go_upto_region 3 with fail;go_region_held3 (fun o=>o.cell? ⟨h,2,none⟩=some (.slice (some ⟨k,0,none⟩) 32 32)/\o.cell? ⟨n.heap.size,2,none⟩=some (j f)/\o.cell? ⟨k,f,none⟩=some (j aG)) (first|exact⟨K.out.drew.c2,c.drew.cell 2 _ rfl,by simpa using S⟩) (fail);all_goals
     clear S;have A:=l K.out.drew;have u:=c.drew;have U:=Z.drew;have T:=Y.drew;exact M6
 . rcases Q with⟨rfl,rfl⟩|⟨rfl,rfl⟩;all_goals
    simp at r E;subst r E;have aj:=c.cell 0 _ rfl;have al:=c.cell 1 _ rfl;have an:=c.cell 2 _ rfl;have ao:=c.cell 3 _ rfl;have ap:=c.cell 4 _ rfl;have aq:=c.cell 5 _ rfl;go_enter func400,ntmps400;go_upto_region 3 with fail;go_region_held3 (fun o=>o.cell? ⟨h,2,none⟩=some (.slice (some ⟨k,0,none⟩) 32 32)/\o.cell? ⟨n.heap.size,2,none⟩=some (j f)/\o.cell? ⟨k,f,none⟩=some (j aG)) (first|exact⟨K.out.drew.c2,c.drew.cell 2 _ rfl,by simpa using S⟩) (fail);all_goals
     clear S;have A:=l K.out.drew;have u:=c.drew;have U:=Z.drew;have T:=Y.drew;exact M7
 . rcases Q with rfl|⟨rfl,rfl⟩|⟨rfl,rfl⟩;all_goals
    simp at r E;subst r E;have aj:=c.cell 0 _ rfl;have al:=c.cell 1 _ rfl;have an:=c.cell 2 _ rfl;have ao:=c.cell 3 _ rfl;have ap:=c.cell 4 _ rfl;have aq:=c.cell 5 _ rfl;go_enter func400,ntmps400;clear S;have A:=K;have u:=c;have U:=Z;have T:=Y;exact M6
 . rcases Q with⟨rfl,rfl⟩|⟨rfl,rfl⟩;all_goals
    simp at r E;subst r E;have aj:=c.cell 0 _ rfl;have al:=c.cell 1 _ rfl;have an:=c.cell 2 _ rfl;have ao:=c.cell 3 _ rfl;have ap:=c.cell 4 _ rfl;have aq:=c.cell 5 _ rfl;go_enter func400,ntmps400;clear S;have A:=K;have u:=c;have U:=Z;have T:=Y;exact M7
def eH (a b:Nat):Nat:=(a+b)%4294967296
def eG (a b c:Nat):Nat:=(b+(a+c)/4294967296)%4294967296
def fM (a:N)(b c:Bool):N:={a with c:={a.c with Wy:=if b=true then eH a.c.Wy 1 else a.c.Wy,WN:=if b=true then eG a.c.Wy a.c.WN 1 else a.c.WN,ret:=if c=true then eH a.c.ret 1 else a.c.ret,We:=if c=true then eG a.c.ret a.c.We 1 else a.c.We}}
def l9 (b:N)(r:Bool)(a:Nat):N:=fM b (!ab a 0) (r&&!ab a 2)
def ht (a c b:Nat)(e:G a)(f:G c)(g:G b)(d:D):
 aE 86 #[.agg #[j a,j c],j b] (.agg #[j (eH a b),j (eG a c b)]) d:=ahF a c b e f g d
def Fh (e q a)(c:af a)(b:Nat)(s:G b)(d:ab b 0=true)(r)(f:Hid (E r e q a)):
 an 39 #[I e,.bool false,j b] (.tuple #[]) [e] e q (fM a false false) r:=by
 have t:(bits .and .i64 (b:Int) 1==0)=false:=by
  rw[show(1:Int)=((1:Nat):Int)from rfl,bm b 1 (by omega) (by omega),eV];exact(dj b 0).trans oY
 have g:=l (ht a.c.Wy a.c.WN 1 c.Wy c.WN m);have h:=l (ht a.c.ret a.c.We 1 c.ret c.We m);have i:((1:Nat):Int)=1:=rfl;rw[i]at g h;unfold fM;obtain⟨u,k⟩:=y (eH a.c.Wy 1);obtain⟨v1,o⟩:=y (eG a.c.Wy a.c.WN 1);obtain⟨v,n⟩:=y (eH a.c.ret 1);obtain⟨v2,p⟩:=y (eG a.c.ret a.c.We 1);simp only[<-k,<-o]at g|-;simp only[<-n,<-p]at h|-;clear k o n p i c d;exact Kv
def agV (e r a)(c:af a)(b:Nat)(t:G b)(d:ab b 0=true)(h:ab b 2=true)(s)(f:Hid (E s e r a)):
 an 39 #[I e,.bool true,j b] (.tuple #[]) [e] e r (fM a false false) s:=by
 have u:(bits .and .i64 (b:Int) 1==0)=false:=by
  rw[show(1:Int)=((1:Nat):Int)from rfl,bm b 1 (by omega) (by omega),eV];exact(dj b 0).trans oY
 have v:(bits .and .i64 (b:Int) 4==0)=false:=by
  rw[show(4:Int)=((4:Nat):Int)from rfl,bm b 4 (by omega) (by omega),eV];exact(dj b 2).trans uC
 have g:=l (ht a.c.Wy a.c.WN 1 c.Wy c.WN m);have i:=l (ht a.c.ret a.c.We 1 c.ret c.We m);have k:((1:Nat):Int)=1:=rfl;rw[k]at g i;unfold fM;obtain⟨w,n⟩:=y (eH a.c.Wy 1);obtain⟨v1,p⟩:=y (eG a.c.Wy a.c.WN 1);obtain⟨x,o⟩:=y (eH a.c.ret 1);obtain⟨v2,q⟩:=y (eG a.c.ret a.c.We 1);simp only[<-n,<-p]at g|-;simp only[<-o,<-q]at i|-;clear n p o q k c d h;exact Kv
def agW (i u a)(f:af a)(b:Nat)(C:G b)(d:ab b 0=true)(h:ab b 2=false)(v)(g:Hid (E v i u a)):
 an 39 #[I i,.bool true,j b] (.tuple #[]) [i] i u (fM a false true) v:=by
 have w:=g.out.XG;have x:=g.out.XH;have H:(bits .and .i64 (b:Int) 1==0)=false:=by
  rw[show(1:Int)=((1:Nat):Int)from rfl,bm b 1 (by omega) (by omega),eV];exact(dj b 0).trans oY
 have J:(bits .and .i64 (b:Int) 4==0)=true:=by
  rw[show(4:Int)=((4:Nat):Int)from rfl,bm b 4 (by omega) (by omega),eV];exact(dj b 2).trans uC
 have n:=l (ht a.c.Wy a.c.WN 1 f.Wy f.WN m);have k:=l (ht a.c.ret a.c.We 1 f.ret f.We m);have o:((1:Nat):Int)=1:=rfl;rw[o]at n k;unfold fM;obtain⟨K,q⟩:=y (eH a.c.Wy 1);obtain⟨v1,s⟩:=y (eG a.c.Wy a.c.WN 1);obtain⟨e,r⟩:=y (eH a.c.ret 1);obtain⟨v2,t⟩:=y (eG a.c.ret a.c.We 1);simp only[<-q,<-s]at n|-;simp only[<-r,<-t]at k|-;clear q s r t o f d h;go_enter func39,ntmps39;go_wp2_with(go_at_call 86;refine(k.out _).mono ?_;rintro D L ⟨rfl,p⟩;have c:=l (E.kept (by first|exact g.out|exact g.out.drew|exact g.out.drew.drew) p);have z:=c.out.XG;have A:=c.out.XH;have B:=c.out.Wb);all_goals
  go_end0;refine⟨rfl,?_,?_⟩
  . first|exact((c.out.set (X':={a with c:={a.c with ret:=e}}) 59 _ rfl rfl m).set (X':={a with c:={a.c with ret:=e,We:=v2}}) 60 _ rfl rfl m)|exact((c.out.set (X':={a with c:={a.c with ret:=e}}) 59 _ rfl rfl m).set (X':={a with c:={a.c with ret:=e,We:=v2}}) 60 _ rfl rfl m).drew|exact((c.out.set (X':={a with c:={a.c with ret:=e}}) 59 _ rfl rfl m).set (X':={a with c:={a.c with ret:=e,We:=v2}}) 60 _ rfl rfl m).drew.drew
  . repeat(first|(with_reducible exact Kept.refl _ _)|(with_reducible refine Kept.Xb ?_ _ _)|(with_reducible refine Kept.setCell ?_ (ci aL) _)|(with_reducible refine Kept.drew ?_)|(with_reducible refine Kept.drewN ?_ _)|(with_reducible refine Kept.alloc ?_ _)|(with_reducible refine Kept.trans ?_ (p.mono F)))
def Fi (k t a)(h:af a)(c:Nat)(A:G c)(d:ab c 0=false)(u)(e:Hid (E u k t a)):
 an 39 #[I k,.bool false,j c] (.tuple #[]) [k] k t (fM a true false) u:=by
 have v:=e.out.Yb;have w:=e.out.Yc;have x:=e.out.XG;have z:=e.out.XH;have B:(bits .and .i64 (c:Int) 1==0)=true:=by
  rw[show(1:Int)=((1:Nat):Int)from rfl,bm c 1 (by omega) (by omega),eV];exact(dj c 0).trans oY
 have i:=l (ht a.c.Wy a.c.WN 1 h.Wy h.WN m);have n:=l (ht a.c.ret a.c.We 1 h.ret h.We m);have o:((1:Nat):Int)=1:=rfl;rw[o]at i n;unfold fM;obtain⟨g,p⟩:=y (eH a.c.Wy 1);obtain⟨v1,r⟩:=y (eG a.c.Wy a.c.WN 1);obtain⟨C,q⟩:=y (eH a.c.ret 1);obtain⟨v2,s⟩:=y (eG a.c.ret a.c.We 1);simp only[<-p,<-r]at i|-;simp only[<-q,<-s]at n|-;clear p r q s o h d;exact Kx
def agX (n u a)(k:af a)(c:Nat)(B:G c)(d:ab c 0=false)(h:ab c 2=true)(v)(e:Hid (E v n u a)):
 an 39 #[I n,.bool true,j c] (.tuple #[]) [n] n u (fM a true false) v:=by
 have w:=e.out.Yb;have x:=e.out.Yc;have z:=e.out.XG;have A:=e.out.XH;have C:(bits .and .i64 (c:Int) 1==0)=true:=by
  rw[show(1:Int)=((1:Nat):Int)from rfl,bm c 1 (by omega) (by omega),eV];exact(dj c 0).trans oY
 have D:(bits .and .i64 (c:Int) 4==0)=false:=by
  rw[show(4:Int)=((4:Nat):Int)from rfl,bm c 4 (by omega) (by omega),eV];exact(dj c 2).trans uC
 have i:=l (ht a.c.Wy a.c.WN 1 k.Wy k.WN m);have o:=l (ht a.c.ret a.c.We 1 k.ret k.We m);have p:((1:Nat):Int)=1:=rfl;rw[p]at i o;unfold fM;obtain⟨g,q⟩:=y (eH a.c.Wy 1);obtain⟨v1,s⟩:=y (eG a.c.Wy a.c.WN 1);obtain⟨H,r⟩:=y (eH a.c.ret 1);obtain⟨v2,t⟩:=y (eG a.c.ret a.c.We 1);simp only[<-q,<-s]at i|-;simp only[<-r,<-t]at o|-;clear q s r t p k d h;exact Kx
def agY (p x a)(n:af a)(f:Nat)(N:G f)(d:ab f 0=false)(h:ab f 2=false)(z)(o:Hid (E z p x a)):
 an 39 #[I p,.bool true,j f] (.tuple #[]) [p] p x (fM a true true) z:=by
 have B:=o.out.Yb;have C:=o.out.Yc;have D:=o.out.XG;have H:=o.out.XH;have O:(bits .and .i64 (f:Int) 1==0)=true:=by
  rw[show(1:Int)=((1:Nat):Int)from rfl,bm f 1 (by omega) (by omega),eV];exact(dj f 0).trans oY
 have P:(bits .and .i64 (f:Int) 4==0)=true:=by
  rw[show(4:Int)=((4:Nat):Int)from rfl,bm f 4 (by omega) (by omega),eV];exact(dj f 2).trans uC
 have q:=l (ht a.c.Wy a.c.WN 1 n.Wy n.WN m);have r:=l (ht a.c.ret a.c.We 1 n.ret n.We m);have s:((1:Nat):Int)=1:=rfl;rw[s]at q r;unfold fM;obtain⟨c,t⟩:=y (eH a.c.Wy 1);obtain⟨v1,v⟩:=y (eG a.c.Wy a.c.WN 1);obtain⟨k,u⟩:=y (eH a.c.ret 1);obtain⟨v2,w⟩:=y (eG a.c.ret a.c.We 1);simp only[<-t,<-v]at q|-;simp only[<-u,<-w]at r|-;clear t v u w s n d h;go_enter func39,ntmps39;go_upto_region 3 with(go_at_call 86;refine(q.out _).mono ?_;rintro A Q ⟨rfl,b⟩;have g:=l (o.out.kept (Kept.trans F8 b));have d57:=g.out.Yb;have d58:=g.out.Yc;have d59:=g.out.XG;have d60:=g.out.XH;have J:=g.out.Wb);all_goals
  go_wp2_with(go_at_call 86;refine(r.out _).mono ?_;rintro A R ⟨rfl,e⟩;have i:=l (E.kept (by first|exact((g.out.set (X':={a with c:={a.c with Wy:=c}}) 57 _ rfl rfl m).set (X':={a with c:={a.c with Wy:=c,WN:=v1}}) 58 _ rfl rfl m)|exact((g.out.set (X':={a with c:={a.c with Wy:=c}}) 57 _ rfl rfl m).set (X':={a with c:={a.c with Wy:=c,WN:=v1}}) 58 _ rfl rfl m).drew|exact((g.out.set (X':={a with c:={a.c with Wy:=c}}) 57 _ rfl rfl m).set (X':={a with c:={a.c with Wy:=c,WN:=v1}}) 58 _ rfl rfl m).drew.drew) e);have K:=i.out.XG;have L:=i.out.XH;have M:=i.out.Wb)
 all_goals
  go_end0;refine⟨rfl,?_,?_⟩
  . first|exact((i.out.set (X':={a with c:={a.c with Wy:=c,WN:=v1,ret:=k}}) 59 _ rfl rfl m).set (X':={a with c:={a.c with Wy:=c,WN:=v1,ret:=k,We:=v2}}) 60 _ rfl rfl m)|exact((i.out.set (X':={a with c:={a.c with Wy:=c,WN:=v1,ret:=k}}) 59 _ rfl rfl m).set (X':={a with c:={a.c with Wy:=c,WN:=v1,ret:=k,We:=v2}}) 60 _ rfl rfl m).drew|exact((i.out.set (X':={a with c:={a.c with Wy:=c,WN:=v1,ret:=k}}) 59 _ rfl rfl m).set (X':={a with c:={a.c with Wy:=c,WN:=v1,ret:=k,We:=v2}}) 60 _ rfl rfl m).drew.drew
  . exact pD
def agU (b d c)(g:af c)(r:Bool)(a:Nat)(h:G a)(e)(i:Hid (E e b d c)):
 an 39 #[I b,.bool r,j a] (.tuple #[]) [b] b d (l9 c r a) e:=by
 unfold l9;cases f:ab a 0<;>cases r<;>cases k:ab a 2
 . exact Fi b d c g a h f e i
 . exact Fi b d c g a h f e i
 . exact agY b d c g a h f k e i
 . exact agX b d c g a h f k e i
 . exact Fh b d c g a h f e i
 . exact Fh b d c g a h f e i
 . exact agW b d c g a h f k e i
 . exact agV b d c g a h f k e i
def agc (c:Nat)(a:Int)(b:a<0\/4294967295<a)(e:D):
 O 74 #[I c,j a] (j 2) e:=by
 rcases b with b|b
 . have d:decide (a<0)=true:=g0;exact Ky
 . have d:decide (a<0)=false:=M;have f:decide (a>4294967295)=true:=M;exact Ky
def aaM (a:N)(b:Nat):{a with b:=jm a.b b}={a with b:={a.b with time:=eH a.b.time b,Wh:=eG a.b.time a.b.Wh b}}:=rfl
def agb (e n a)(f:af a)(c:Nat)(q:c<=4294967295)(p)(g:Hid (E p e n a)):
 an 74 #[I e,j c] (j 0) [e] e n ({a with b:=jm a.b c}) p:=by
 have r:=g.out.XP;have s:=g.out.XQ;have v:decide ((c:Int)<0)=false:=bN;have w:decide ((c:Int)>4294967295)=false:=M;have h:=l (ht a.b.time a.b.Wh c f.b.time f.b.Wh m);rw[aaM];obtain⟨o,i⟩:=y (eH a.b.time c);obtain⟨v1,k⟩:=y (eG a.b.time a.b.Wh c);simp only[<-i,<-k]at h|-;clear i k f q;go_enter func74,ntmps74;go_wp2_with(go_at_call 86;refine(h.out _).mono ?_;rintro u x ⟨rfl,b⟩;have d:=l (g.out.kept b);have d62:=d.out.XP;have d63:=d.out.XQ;have t:=d.out.Wb);all_goals
  go_ret;refine⟨rfl,?_,?_⟩
  . exact(d.out.set (X':={a with b:={a.b with time:=o}}) 62 _ rfl rfl m).set (X':={a with b:={a.b with time:=o,Wh:=v1}}) 63 _ rfl rfl m
  . exact vx
def afT (b d a e)(c:Hid (E e b d a)):
 an 76 #[I b] (.string a.b.Wc) [b] b d ({a with b:={a.b with Wc:=⟨#[]⟩}}) e:=by
 have f:=c.out.XL;have g:=c.out.Wb;go_enter func76,ntmps76;go_wp2_with fail;go_ret;refine⟨rfl,?_,?_⟩
 . exact c.out.set 70 _ rfl rfl m
 . exact Ag
def qJ (a:N)(p b:Nat):Bool:=a.W9&&decide (0<b)&&decide ((a.WU:Int)-2147483648<p+b)&&decide ((p:Int)< (a.WU:Int)-2147483648+4)
def qK (a:N)(p b:Nat):N:=if qJ a p b=true then hr a else a
theorem ai6 (d k b)(n:af b)(p a:Nat)(L:p<=65536)(K:a<=65536)(q)(e:Hid (E q d k b)):
 an 37 #[I d,j p,j a] (.tuple #[]) [d] d k (qK b p a) q:=by
 have w:=e.out.XJ;have G:=e.out.XC;have B:=n.WU;have s:=l (fun W z=>qV d k b W z);unfold qK qJ;obtain⟨r,i⟩:=y ((b.WU:Int)-2147483648:Int);rw[<-i];have x:wrap64 ((b.WU:Int)-2147483648)=r:=by rw[<-wM,i];exact fk _ m
 have D:IntKind.i64.wrap ((b.WU:Int)-2147483648)=r:=by rw[wM];exact x
 have H:IntKind.i64.wrap ((p:Int)+a)=p+a:=lN;have J:IntKind.i64.wrap (r+4)=r+4:=lN;obtain⟨t,o⟩:=y (b.W9);rw[<-o]at w|-;obtain⟨f,c⟩:=y (decide (0<a));obtain⟨u,g⟩:=y (decide (r< (p:Int)+a));obtain⟨v,h⟩:=y (decide ((p:Int)<r+4));rw[<-c,<-g,<-h];have N:decide ((a:Int)>0)=f:=by rw[c];simp
 have F:decide ((0:Int)<a)=f:=by rw[c];simp
 have O:=c.symm;have P:=g.symm;have Q:=h.symm;clear o c g h n i B;cases t<;>cases f<;>cases u<;>cases v;all_goals
  go_enter func37,ntmps37;go_wp2_with(go_at_call 78;refine(s.out _ e).mono ?_;rintro M R ⟨rfl,C,A⟩);go_end0;first
  |exact⟨rfl,C,A⟩
  |exact⟨rfl,e.out,Kept.refl _ _⟩
def ag4 (f h a)(n:af a)(i:¬(bs a.b (S a) a.V3).1.f=0)(e)(c:Hid (E e f h a)):
 an 82 #[I f] (.tuple #[ag ⟨0,0,0,0,0,0⟩,aS (a7 (bs a.b (S a) a.V3).1.f 0) (bs a.b (S a) a.V3).1.Yn]) [f,h] f h (a.V7 (bs a.b (S a) a.V3).2) e:=by
 have B:=c.out.lt;have C:=c.out.Ww;have u:Hid (E ((e.alloc (.cells #[j 0,j 0,j 0,j 0,j 0,j 0] 53)).alloc (.cells #[j 0,j 0] 118)) f h a):=cD;have g:=l (fun W s=>tG f h a n W s);obtain⟨⟨d,A⟩,m⟩:∃d,d=bs a.b (S a) a.V3:=⟨_,rfl⟩;simp only[<-m]at g i|-;try dsimp only at g i|-
 have k:hb d=.tuple #[j 0,.agg #[j (a7 d.f 0),j d.Yn]]:=by unfold hb;rw[z i]
 simp only[k]at g;have t:=jo d.f 0;obtain⟨r,o⟩:=y (a7 d.f 0);obtain⟨x,p⟩:=y (d.Yn);simp only[<-o,<-p]at g t|-;unfold ag aS;dsimp only;clear n m k o p i;go_enter func82,ntmps82;go_wp2_with fail;refine(g.out _ u).mono ?_;rintro w q ⟨rfl,v,b⟩;obtain⟨D,G,H,J,K,L,M,R,T,N,U,O,V,P,X,Q⟩:a8 q e.heap.size 0 0 0 0 0 0:=jC;obtain⟨Y,Z,aa,aj,ak,ab,al,ae,am,ah,ao,ai⟩:av q (e.heap.size+1) 0 0:=ih;go_upto_region 3 with(go_at_call 83;refine(cd _ _ _).mono ?_;rintro w ap ⟨rfl,rfl⟩);go_region;all_goals
  go_wp2_with fail;refine ac (v:=.tuple #[.agg #[j 0,j 0,j 0,j 0,j 0,j 0],.agg #[j r,j x]]) uE rfl ⟨rfl,?_,?_⟩
  . refine v.more (G:=[e.heap.size,e.heap.size+1]) ?_ ad ad;exact jG
  . exact ng
def ag6 (g k a)(r:af a)(f:(bs a.b (S a) a.V3).1.f=0)(hd:¬(aP (bs a.b (S a) a.V3).1.w).2=0)(d)(c:Hid (E d g k a)):
 an 82 #[I g] (.tuple #[ag ⟨0,0,0,0,0,0⟩,aS 2 (bs a.b (S a) a.V3).1.w]) [g,k] g k (a.V7 (bs a.b (S a) a.V3).2) d:=by
 have H:=c.out.lt;have J:=c.out.Ww;have C:Hid (E ((d.alloc (.cells #[j 0,j 0,j 0,j 0,j 0,j 0] 53)).alloc (.cells #[j 0,j 0] 118)) g k a):=cD;have h:=l (fun W z=>tG g k a r W z);obtain⟨⟨i,G⟩,q⟩:∃i,i=bs a.b (S a) a.V3:=⟨_,rfl⟩;simp only[<-q]at h f hd|-;try dsimp only at h f hd|-
 have o:hb i=.tuple #[j i.w,.agg #[j (-1),j 0]]:=y8;simp only[o]at h;obtain⟨n,s⟩:=y (i.w);simp only[<-s]at h hd|-;have m:=l (fun W=>pZ (n:Int) W);obtain⟨⟨⟨K,L,M,N,O,P⟩,x⟩,p⟩:∃w,w=aP (n:Int):=⟨_,rfl⟩;simp only[<-p]at m hd;try dsimp only at m hd
 unfold aW at m;have am:(x !=0)=true:=by simp[hd]
 unfold ag aS;dsimp only;clear r q o s f p hd;go_enter func82,ntmps82;go_wp2_with fail;refine(h.out _ C).mono ?_;rintro t u ⟨rfl,D,b⟩;obtain⟨Q,R,T,U,V,X,Y,ah,ai,Z,aj,aa,ak,ab,al,ae⟩:a8 u d.heap.size 0 0 0 0 0 0:=jC;obtain⟨ao,aq,au,aF,aG,ax,aH,ay,aI,az,aJ,aA⟩:av u (d.heap.size+1) 0 0:=ih;go_wp2_with(go_at_call 83;refine(cd _ _ _).mono ?_;rintro t aU ⟨rfl,rfl⟩);refine(m.out _).mono ?_;rintro t v ⟨rfl,A⟩;have e:=Below.kept A [];obtain⟨_,_,_,_,_,_,_,_,_,_,_,_,_,_,_,_⟩:a8 v d.heap.size 0 0 0 0 0 0:=zn;obtain⟨ap,ar,aw,aM,aN,aB,aO,aC,aQ,aD,aT,aE⟩:av v (d.heap.size+1) 0 0:=u8;go_wp2_with fail;refine ac (v:=.tuple #[.agg #[j 0,j 0,j 0,j 0,j 0,j 0],.agg #[j 2,j n]]) uE rfl ⟨rfl,?_,?_⟩
 . refine((D.alloc _).alloc _ |>.kept e).more (G:=[d.heap.size,d.heap.size+1]) ?_ ad ad;repeat(first|(with_reducible exact Kept.refl _ _)|(with_reducible refine Kept.setCell ?_ (hz (by simp;done)) _)|(with_reducible refine Kept.setCell ?_ (ci aL) _)|(with_reducible refine Kept.drew ?_)|(with_reducible refine Kept.alloc ?_ _))
 . exact z9
theorem U7 (e:D)(j v w g:TypeId)(b d f n:Nat)(a:K)(hu:prog.underlying j=some (.slice g))(l:(prog.info? g).map (·.size)=some 1)(y:a.size<=f)
 (p:∀c,c<a.size->(e.cell? ⟨b,d+c,none⟩).isSome=true) (r:∀c,c<a.size->e.frozen? ⟨b,d+c,none⟩=false):
 (Builtin.copy_ #[j,v] w #[.slice (some ⟨b,d,none⟩) f n,.string a]).run prog e=.ok (goInt a.size) (e.setCells b d (dt a.data.toList)):=by
 have k:(dt a.data.toList).length=a.size:=by rw[ja];simp
 have u:=run_storeCells_cells (P:=prog) b d (dt a.data.toList) 0 e (by rw[k];simpa using p) (by rw[k];simpa using r) (by
  intro z m;simp[dt]at m;obtain⟨x,_,rfl⟩:=m;rfl)
 have t:min a.size f=a.size:=J;have q:a.extract 0 a.size=a:=bN;cases h:prog.info? g with
 |none=>simp[h]at l
 |some i=>
  have s:i.size=1:=by simpa[h]using l
  have o:List.take a.size (List.map (fun b=>Value.int .u8 (b.toNat:Int)) a.data.toList)=dt a.data.toList:=by unfold dt;exact yx F
  simp[Builtin.copy_,run_underlying hu,Builtin.lenOf,Builtin.firstCells,_root_.Go.sizeOf,typeInfo,h,s,t,q,o];rw[u];rfl
def afZ (b:Nat)(c:Int)(a:K)(e:65536<a.size)(d:D):
 O 24 #[I b,j c,.string a] (j 1) d:=by
 have f:decide (65536< (a.size:Int))=true:=M;exact LN
def afY (e i:Nat)(d:N)(n:d.b.o.length<=65536)(a:Int)(c:K)(o:c.size<=65536)(k:a<0\/(d.b.o.length:Int)-c.size<a)(f)(g:Hid (E f e i d)):
 O 24 #[I e,j a,.string c] (j 2) f:=by
 have q:decide (65536< (c.size:Int))=false:=M;have l:=g.out.V8;have p:=fk ((d.b.o.length:Int)-c.size) m;by_cases b:a<0
 . have h:decide (a<0)=true:=kl;exact LO
 . have h:decide (a<0)=false:=M;have r:decide ((d.b.o.length:Int)-c.size<a)=true:=M;exact LO
def kU (a:N)(b:Nat)(c:K):N:=qK (bZ a (laidB a.b.o b c.data.toList)) b c.size
def afX (g d b)(n:af b)(a:Nat)(e:K)(k:a+e.size<=b.b.o.length)(c)(i:Hid (E c g d b)):
 an 24 #[I g,j a,.string e] (j 0) [g,d] g d (kU b a e) c:=by
 have f:=n.b.o;have O:decide (65536< (e.size:Int))=false:=M;have P:decide ((a:Int)<0)=false:=bN;have Q:decide ((b.b.o.length:Int)-e.size< (a:Int))=false:=M;have L:=fk ((b.b.o.length:Int)-e.size) m;have H:=i.out.V8;have v:∃h,(∀c,(Instr.slice 64 (.slice (some ⟨d,0,none⟩) b.b.o.length b.b.o.length) (some (.int .i64 (a:Int))) none none).run prog c=.ok (.slice (some ⟨d,h,none⟩) (b.b.o.length-a) (b.b.o.length-a)) c)/\(e.size=0\/h=a):=by
  have f:∀c,(Instr.slice 64 (.slice (some ⟨d,0,none⟩) b.b.o.length b.b.o.length) (some (.int .i64 (a:Int))) none none).run prog c=.ok (.slice (if b.b.o.length=a then some ⟨d,0,none⟩else some ⟨d,a,none⟩) (b.b.o.length-a) (b.b.o.length-a)) c:=by
   intro c;have hu:prog.underlying 64=some (.slice (prog.elem 64)):=gY;have k:=run_slice_l (P:=prog) c 64 (some ⟨d,0,none⟩) b.b.o.length b.b.o.length hu .i64 (a:Int) m m;rw[k];have q:(_root_.Go.sizeOf (prog.elem 64)).run prog c=.ok 1 c:=gY;rw[q];simp only[Result.andThen,sliced];rw[show(a:Int).toNat=a by omega,oH,gR,ui d 0 a,eh]
  by_cases o:b.b.o.length=a
  . exact zE
  . exact zF
 obtain⟨h,v,u⟩:=v;have C:(Builtin.copy_ #[64,9] 3 #[.slice (some ⟨d,h,none⟩) (b.b.o.length-a) (b.b.o.length-a),.string e]).run prog c=.ok (.int .i64 e.size) (c.setCells d a (dt e.data.toList)):=by
  have:=U7 c 64 9 3 5 d h (b.b.o.length-a) (b.b.o.length-a) e gQ wI m (fun A J=>by
   rw[i.out.o (h+A) (by omega)];rfl) (fun A _=>i.out.XA _)
  rw[this];rcases u with p|p
  . have q:dt e.data.toList=[]:=yj (by rw[ja];simpa using p);rw[q];rfl
  . rw[p];rfl
 have x:=l (E.laid e.data.toList a i.out (by simpa using k));have t:Hid (Kept [g,d] c (c.setCells d a (dt e.data.toList))):=l (Kept.Xh _ (.inl F) _ _ _ (Kept.refl _ _));have s:af (bZ b (laidB b.b.o a e.data.toList)):={n with b:=tf n.b (wO _ _ _)};have r:=l (ai6 g d _ s a e.size m m _ x);unfold kU;obtain⟨R,w⟩:=y (c.setCells d a (dt e.data.toList));rw[<-w]at C t r;clear n s w x i u k;go_enter func24,ntmps24;go_wp2_with fail;refine r.out.mono ?_;rintro N S ⟨rfl,G,D⟩;go_wp2_with fail;go_ret;exact⟨rfl,G,t.out.trans (D.mono F)⟩
end
end Go.Proofs.YtmlgonbhoknoiaaGreatDoor
