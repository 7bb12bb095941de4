import Derived.Test.YtmlgonbhoknoiabGreatDoorJAS
set_option maxHeartbeats 8000000
set_option maxRecDepth 100000
set_option linter.all false
namespace Go.Proofs.YtmlgonbhoknoiabGreatDoor
open Go.RowKit Go.Proofs.Tryz
section
attribute [local go_sem ↓] Go.wp_at_zero Go.wp_at_succ
def acr (g q d k v:Nat)(a:ai)(N:ey a)(i:ak)(a2:aT i)(bC:61<=i.op/\i.op<=66)(bw:0<=i.V2)(bx:i.V2<=4095)(H:Nat)(a4:kJ a i<4294967296)(aw:gs a.f a.b i.V2<4294967296)(n:D)(X:Hid (V n g q d k v a)):
 Calls prog 401 #[I g,ag i,j H] n fun bG o=>bG=.returned (cx (iu a i H).1)/\V o g q d k v (iu a i H).2/\Kept [d,k] n o:=by
 obtain⟨e,p,f,x,b,s⟩:=i;obtain⟨aF,a7,-,-,-,bE⟩:=id a2;dsimp only at bC bE aF a7 bw bx aw;obtain⟨b,rfl⟩:∃bF:Nat,b=bF:=⟨b.toNat,by omega⟩;have bA:b<=4095:=J;have bZ:=X.out.lt;have b0:=X.out.Wt.lt;have b1:=X.out.Wt.Ww;have b2:=X.out.Xc;have b3:=X.out.WW.lt;have bW:=N.V3;have bD:=N.WE f;have af:=N.f;have bX:(0:Int)<=(f:Int):=J;have bY:(f:Int)<32:=J;have K:=l ((X.out.alloc (.cells #[j e,j p,j f,j x,j b,j s] 60)).alloc (.cells #[j 0,j 0,j 0] 248));have c:=(bf.new n [j e,j p,j f,j x,j b,j s] 60).alloc (.cells #[j 0,j 0,j 0] 248);have Z:=bf.Yo n (.cells #[j e,j p,j f,j x,j b,j s] 60) [j 0,j 0,j 0] 248;have Y:Kept [d,k] n ((n.alloc (.cells #[j e,j p,j f,j x,j b,j s] 60)).alloc (.cells #[j 0,j 0,j 0] 248)):=pp;have S:=K.out.XM f a7;obtain⟨bv,h⟩:=y (fun av o=>av=.returned (cx (iu a ⟨e,p,f,x,(b:Int),s⟩ H).1)/\V o g q d k v (iu a ⟨e,p,f,x,(b:Int),s⟩ H).2/\Kept [d,k] n o:Ending->D->Prop);rw[<-h];have aK:∀av o,av=.returned (cx (iu a ⟨e,p,f,x,(b:Int),s⟩ H).1)/\V o g q d k v (iu a ⟨e,p,f,x,(b:Int),s⟩ H).2/\Kept [d,k] n o->bv av o:=m7;obtain⟨⟨⟨aW,aX,aY⟩,ar⟩,w⟩:∃bu,bu=iu a ⟨e,p,f,x,(b:Int),s⟩ H:=⟨_,rfl⟩;rw[<-w]at aK;have bL:=l (mD 2 H);have a9:=l (om ((a.V3:Int)+s));have b6:=fj ((a.V3:Int)+s) m;unfold cx gB at *;unfold iu at w;dsimp only at w aK;rw[show((b:Int)).toNat=b by simp]at w;obtain⟨C,bH⟩:=fG (((f:Int) !=0));obtain⟨O,aD⟩:=y (cT ⟨e,p,f,x,(b:Int),s⟩);have a0:O=true↔e=61\/e=64\/C=true:=by rw[aD,<-bH];unfold cT;simp
 rw[<-aD]at w;have aJ:=l (fun W (t:V W g q d k v a)=>abQ d q a.f af b bA O W (l t.WW));obtain⟨be,a3⟩:=y (nY a.f b O);simp only[<-a3]at aJ w;have aV:=l (fun W (t:V W g q d k v a)=>yg d q v a.f a.b af N.soft N.b.enable (b:Int) W (l t.WW) (l t.Wt));have aU:=l (fun W (t:V W g q d k v a)=>aa4 d q v a.f a.b af N.soft N.b.enable (b:Int) W (l t.WW) (l t.Wt));obtain⟨aC,a5⟩:=y (bB a.f a.b (b:Int));simp only[<-a5]at aV w;obtain⟨a8,r⟩:=y (kJ a ⟨e,p,f,x,(b:Int),s⟩);rw[<-r]at a4 w;have bM:=l (fun W (t:V W g q d k v a)=>ac4 d q a.f af (b:Int) a8 a4 W (l t.WW));unfold kJ nD at r;dsimp only at r;obtain⟨aG,aE⟩:∃bI,bI=a.x.getD f 0:=⟨_,rfl⟩;rw[<-aE]at bD S;simp only[<-aE]at r;obtain⟨ah,E⟩:=fG ((if e<=63 then aG else f));have a6:G ah:=by rw[<-E];split<;>omega
 rw[E]at r;obtain⟨au,aZ⟩:=y (gs a.f a.b (b:Int));simp only[<-aZ]at aU r aw;have bq:=l (yb au ah aw a6);have bs:=l (tR au ah aw a6);generalize au |||ah=b4 at *;generalize aI au ah=b5 at *;obtain⟨bt,a1⟩:=y (am ((a.V3:Int)+s));simp only[<-a1]at a9 w;have bg:=l (fun W t=>q4 g q d k v {a with f:=ce a.f (b:Int) a8} p aF (aC:Int) W t);have br:=l (fun W t=>q4 g q d k v a p aF (aC:Int) W t);clear h N a2 af aE aZ a5 a1 a3 aD;have bz:(e=61\/e=62/\C=true\/e=63/\C=true)/\O=true\/(e=62/\C=false\/e=63/\C=false)/\O=false\/(e=64\/e=65/\C=true\/e=66/\C=true)/\O=true\/(e=65/\C=false\/e=66/\C=false)/\O=false:=by cases C<;>cases O<;>simp at a0|- <;>omega
 clear a0;unfold ag;dsimp only;rcases bz with⟨Q,rfl⟩|⟨Q,rfl⟩|⟨Q,rfl⟩|⟨Q,rfl⟩
 . rcases Q with rfl|⟨rfl,rfl⟩|⟨rfl,rfl⟩;all_goals
    simp at r E;subst r E;have aj:=c.cell 0 _ rfl;have al:=c.cell 1 _ rfl;have an:=c.cell 2 _ rfl;have ao:=c.cell 3 _ rfl;have ap:=c.cell 4 _ rfl;have aq:=c.cell 5 _ rfl;go_enter func401,ntmps401;go_upto_region 3 with fail;go_region_held3 (fun o=>o.cell? ⟨g,2,none⟩=some (.slice (some ⟨k,0,none⟩) 32 32)/\o.cell? ⟨n.heap.size,2,none⟩=some (j f)/\o.cell? ⟨k,f,none⟩=some (j aG)) (first|exact⟨K.out.drew.c2,c.drew.cell 2 _ rfl,by simpa using S⟩) (fail);all_goals
     clear S;have A:=l K.out.drew;have u:=c.drew;have U:=Z.drew;have T:=Y.drew;exact Nt
 . rcases Q with⟨rfl,rfl⟩|⟨rfl,rfl⟩;all_goals
    simp at r E;subst r E;have aj:=c.cell 0 _ rfl;have al:=c.cell 1 _ rfl;have an:=c.cell 2 _ rfl;have ao:=c.cell 3 _ rfl;have ap:=c.cell 4 _ rfl;have aq:=c.cell 5 _ rfl;go_enter func401,ntmps401;go_upto_region 3 with fail;go_region_held3 (fun o=>o.cell? ⟨g,2,none⟩=some (.slice (some ⟨k,0,none⟩) 32 32)/\o.cell? ⟨n.heap.size,2,none⟩=some (j f)/\o.cell? ⟨k,f,none⟩=some (j aG)) (first|exact⟨K.out.drew.c2,c.drew.cell 2 _ rfl,by simpa using S⟩) (fail);all_goals
     clear S;have A:=l K.out.drew;have u:=c.drew;have U:=Z.drew;have T:=Y.drew;exact Nu
 . rcases Q with rfl|⟨rfl,rfl⟩|⟨rfl,rfl⟩;all_goals
    simp at r E;subst r E;have aj:=c.cell 0 _ rfl;have al:=c.cell 1 _ rfl;have an:=c.cell 2 _ rfl;have ao:=c.cell 3 _ rfl;have ap:=c.cell 4 _ rfl;have aq:=c.cell 5 _ rfl;go_enter func401,ntmps401;clear S;have A:=K;have u:=c;have U:=Z;have T:=Y;exact Nt
 . rcases Q with⟨rfl,rfl⟩|⟨rfl,rfl⟩;all_goals
    simp at r E;subst r E;have aj:=c.cell 0 _ rfl;have al:=c.cell 1 _ rfl;have an:=c.cell 2 _ rfl;have ao:=c.cell 3 _ rfl;have ap:=c.cell 4 _ rfl;have aq:=c.cell 5 _ rfl;go_enter func401,ntmps401;clear S;have A:=K;have u:=c;have U:=Z;have T:=Y;exact Nu
def eH (a b:Nat):Nat:=(a+b)%4294967296
def eG (a b c:Nat):Nat:=(b+(a+c)/4294967296)%4294967296
def fL (a:N)(b c:Bool):N:={a with c:={a.c with Wy:=if b=true then eH a.c.Wy 1 else a.c.Wy,WN:=if b=true then eG a.c.Wy a.c.WN 1 else a.c.WN,ret:=if c=true then eH a.c.ret 1 else a.c.ret,We:=if c=true then eG a.c.ret a.c.We 1 else a.c.We}}
def l7 (b:N)(r:Bool)(a:Nat):N:=fL b (!aa a 0) (r&&!aa a 2)
def hs (a c b:Nat)(e:G a)(f:G c)(g:G b)(d:D):
 aE 85 #[.agg #[j a,j c],j b] (.agg #[j (eH a b),j (eG a c b)]) d:=ag1 a c b e f g d
def FC (e q a)(c:af a)(b:Nat)(s:G b)(d:aa b 0=true)(r)(f:Hid (E r e q a)):
 an 38 #[I e,.bool false,j b] (.tuple #[]) [e] e q (fL a false false) r:=by
 have t:(bits .and .i64 (b:Int) 1==0)=false:=by
  rw[show(1:Int)=((1:Nat):Int)from rfl,bl b 1 (by omega) (by omega),eV];exact(dg b 0).trans pe
 have g:=l (hs a.c.Wy a.c.WN 1 c.Wy c.WN m);have h:=l (hs a.c.ret a.c.We 1 c.ret c.We m);have i:((1:Nat):Int)=1:=rfl;rw[i]at g h;unfold fL;obtain⟨u,k⟩:=y (eH a.c.Wy 1);obtain⟨v1,o⟩:=y (eG a.c.Wy a.c.WN 1);obtain⟨v,n⟩:=y (eH a.c.ret 1);obtain⟨v2,p⟩:=y (eG a.c.ret a.c.We 1);simp only[<-k,<-o]at g|-;simp only[<-n,<-p]at h|-;clear k o n p i c d;exact KP
def agh (e r a)(c:af a)(b:Nat)(t:G b)(d:aa b 0=true)(h:aa b 2=true)(s)(f:Hid (E s e r a)):
 an 38 #[I e,.bool true,j b] (.tuple #[]) [e] e r (fL a false false) s:=by
 have u:(bits .and .i64 (b:Int) 1==0)=false:=by
  rw[show(1:Int)=((1:Nat):Int)from rfl,bl b 1 (by omega) (by omega),eV];exact(dg b 0).trans pe
 have v:(bits .and .i64 (b:Int) 4==0)=false:=by
  rw[show(4:Int)=((4:Nat):Int)from rfl,bl b 4 (by omega) (by omega),eV];exact(dg b 2).trans uY
 have g:=l (hs a.c.Wy a.c.WN 1 c.Wy c.WN m);have i:=l (hs a.c.ret a.c.We 1 c.ret c.We m);have k:((1:Nat):Int)=1:=rfl;rw[k]at g i;unfold fL;obtain⟨w,n⟩:=y (eH a.c.Wy 1);obtain⟨v1,p⟩:=y (eG a.c.Wy a.c.WN 1);obtain⟨x,o⟩:=y (eH a.c.ret 1);obtain⟨v2,q⟩:=y (eG a.c.ret a.c.We 1);simp only[<-n,<-p]at g|-;simp only[<-o,<-q]at i|-;clear n p o q k c d h;exact KP
def agi (i u a)(f:af a)(b:Nat)(C:G b)(d:aa b 0=true)(h:aa b 2=false)(v)(g:Hid (E v i u a)):
 an 38 #[I i,.bool true,j b] (.tuple #[]) [i] i u (fL a false true) v:=by
 have w:=g.out.XG;have x:=g.out.XH;have H:(bits .and .i64 (b:Int) 1==0)=false:=by
  rw[show(1:Int)=((1:Nat):Int)from rfl,bl b 1 (by omega) (by omega),eV];exact(dg b 0).trans pe
 have J:(bits .and .i64 (b:Int) 4==0)=true:=by
  rw[show(4:Int)=((4:Nat):Int)from rfl,bl b 4 (by omega) (by omega),eV];exact(dg b 2).trans uY
 have n:=l (hs a.c.Wy a.c.WN 1 f.Wy f.WN m);have k:=l (hs a.c.ret a.c.We 1 f.ret f.We m);have o:((1:Nat):Int)=1:=rfl;rw[o]at n k;unfold fL;obtain⟨K,q⟩:=y (eH a.c.Wy 1);obtain⟨v1,s⟩:=y (eG a.c.Wy a.c.WN 1);obtain⟨e,r⟩:=y (eH a.c.ret 1);obtain⟨v2,t⟩:=y (eG a.c.ret a.c.We 1);simp only[<-q,<-s]at n|-;simp only[<-r,<-t]at k|-;clear q s r t o f d h;go_enter func38,ntmps38;go_wp2_with(go_at_call 85;refine(k.out _).mono ?_;rintro D L ⟨rfl,p⟩;have c:=l (E.kept (by first|exact g.out|exact g.out.drew|exact g.out.drew.drew) p);have z:=c.out.XG;have A:=c.out.XH;have B:=c.out.Wb);all_goals
  go_end0;refine⟨rfl,?_,?_⟩
  . first|exact((c.out.set (X':={a with c:={a.c with ret:=e}}) 59 _ rfl rfl m).set (X':={a with c:={a.c with ret:=e,We:=v2}}) 60 _ rfl rfl m)|exact((c.out.set (X':={a with c:={a.c with ret:=e}}) 59 _ rfl rfl m).set (X':={a with c:={a.c with ret:=e,We:=v2}}) 60 _ rfl rfl m).drew|exact((c.out.set (X':={a with c:={a.c with ret:=e}}) 59 _ rfl rfl m).set (X':={a with c:={a.c with ret:=e,We:=v2}}) 60 _ rfl rfl m).drew.drew
  . repeat(first|(with_reducible exact Kept.refl _ _)|(with_reducible refine Kept.Xb ?_ _ _)|(with_reducible refine Kept.setCell ?_ (ch aL) _)|(with_reducible refine Kept.drew ?_)|(with_reducible refine Kept.drewN ?_ _)|(with_reducible refine Kept.alloc ?_ _)|(with_reducible refine Kept.trans ?_ (p.mono F)))
def FD (k t a)(h:af a)(c:Nat)(A:G c)(d:aa c 0=false)(u)(e:Hid (E u k t a)):
 an 38 #[I k,.bool false,j c] (.tuple #[]) [k] k t (fL a true false) u:=by
 have v:=e.out.Yb;have w:=e.out.Yc;have x:=e.out.XG;have z:=e.out.XH;have B:(bits .and .i64 (c:Int) 1==0)=true:=by
  rw[show(1:Int)=((1:Nat):Int)from rfl,bl c 1 (by omega) (by omega),eV];exact(dg c 0).trans pe
 have i:=l (hs a.c.Wy a.c.WN 1 h.Wy h.WN m);have n:=l (hs a.c.ret a.c.We 1 h.ret h.We m);have o:((1:Nat):Int)=1:=rfl;rw[o]at i n;unfold fL;obtain⟨g,p⟩:=y (eH a.c.Wy 1);obtain⟨v1,r⟩:=y (eG a.c.Wy a.c.WN 1);obtain⟨C,q⟩:=y (eH a.c.ret 1);obtain⟨v2,s⟩:=y (eG a.c.ret a.c.We 1);simp only[<-p,<-r]at i|-;simp only[<-q,<-s]at n|-;clear p r q s o h d;exact KQ
def agj (n u a)(k:af a)(c:Nat)(B:G c)(d:aa c 0=false)(h:aa c 2=true)(v)(e:Hid (E v n u a)):
 an 38 #[I n,.bool true,j c] (.tuple #[]) [n] n u (fL a true false) v:=by
 have w:=e.out.Yb;have x:=e.out.Yc;have z:=e.out.XG;have A:=e.out.XH;have C:(bits .and .i64 (c:Int) 1==0)=true:=by
  rw[show(1:Int)=((1:Nat):Int)from rfl,bl c 1 (by omega) (by omega),eV];exact(dg c 0).trans pe
 have D:(bits .and .i64 (c:Int) 4==0)=false:=by
  rw[show(4:Int)=((4:Nat):Int)from rfl,bl c 4 (by omega) (by omega),eV];exact(dg c 2).trans uY
 have i:=l (hs a.c.Wy a.c.WN 1 k.Wy k.WN m);have o:=l (hs a.c.ret a.c.We 1 k.ret k.We m);have p:((1:Nat):Int)=1:=rfl;rw[p]at i o;unfold fL;obtain⟨g,q⟩:=y (eH a.c.Wy 1);obtain⟨v1,s⟩:=y (eG a.c.Wy a.c.WN 1);obtain⟨H,r⟩:=y (eH a.c.ret 1);obtain⟨v2,t⟩:=y (eG a.c.ret a.c.We 1);simp only[<-q,<-s]at i|-;simp only[<-r,<-t]at o|-;clear q s r t p k d h;exact KQ
def agk (p x a)(n:af a)(f:Nat)(N:G f)(d:aa f 0=false)(h:aa f 2=false)(z)(o:Hid (E z p x a)):
 an 38 #[I p,.bool true,j f] (.tuple #[]) [p] p x (fL a true true) z:=by
 have B:=o.out.Yb;have C:=o.out.Yc;have D:=o.out.XG;have H:=o.out.XH;have O:(bits .and .i64 (f:Int) 1==0)=true:=by
  rw[show(1:Int)=((1:Nat):Int)from rfl,bl f 1 (by omega) (by omega),eV];exact(dg f 0).trans pe
 have P:(bits .and .i64 (f:Int) 4==0)=true:=by
  rw[show(4:Int)=((4:Nat):Int)from rfl,bl f 4 (by omega) (by omega),eV];exact(dg f 2).trans uY
 have q:=l (hs a.c.Wy a.c.WN 1 n.Wy n.WN m);have r:=l (hs a.c.ret a.c.We 1 n.ret n.We m);have s:((1:Nat):Int)=1:=rfl;rw[s]at q r;unfold fL;obtain⟨c,t⟩:=y (eH a.c.Wy 1);obtain⟨v1,v⟩:=y (eG a.c.Wy a.c.WN 1);obtain⟨k,u⟩:=y (eH a.c.ret 1);obtain⟨v2,w⟩:=y (eG a.c.ret a.c.We 1);simp only[<-t,<-v]at q|-;simp only[<-u,<-w]at r|-;clear t v u w s n d h;go_enter func38,ntmps38;go_upto_region 3 with(go_at_call 85;refine(q.out _).mono ?_;rintro A Q ⟨rfl,b⟩;have g:=l (o.out.kept (Kept.trans Gt b));have d57:=g.out.Yb;have d58:=g.out.Yc;have d59:=g.out.XG;have d60:=g.out.XH;have J:=g.out.Wb);all_goals
  go_wp2_with(go_at_call 85;refine(r.out _).mono ?_;rintro A R ⟨rfl,e⟩;have i:=l (E.kept (by first|exact((g.out.set (X':={a with c:={a.c with Wy:=c}}) 57 _ rfl rfl m).set (X':={a with c:={a.c with Wy:=c,WN:=v1}}) 58 _ rfl rfl m)|exact((g.out.set (X':={a with c:={a.c with Wy:=c}}) 57 _ rfl rfl m).set (X':={a with c:={a.c with Wy:=c,WN:=v1}}) 58 _ rfl rfl m).drew|exact((g.out.set (X':={a with c:={a.c with Wy:=c}}) 57 _ rfl rfl m).set (X':={a with c:={a.c with Wy:=c,WN:=v1}}) 58 _ rfl rfl m).drew.drew) e);have K:=i.out.XG;have L:=i.out.XH;have M:=i.out.Wb)
 all_goals
  go_end0;refine⟨rfl,?_,?_⟩
  . first|exact((i.out.set (X':={a with c:={a.c with Wy:=c,WN:=v1,ret:=k}}) 59 _ rfl rfl m).set (X':={a with c:={a.c with Wy:=c,WN:=v1,ret:=k,We:=v2}}) 60 _ rfl rfl m)|exact((i.out.set (X':={a with c:={a.c with Wy:=c,WN:=v1,ret:=k}}) 59 _ rfl rfl m).set (X':={a with c:={a.c with Wy:=c,WN:=v1,ret:=k,We:=v2}}) 60 _ rfl rfl m).drew|exact((i.out.set (X':={a with c:={a.c with Wy:=c,WN:=v1,ret:=k}}) 59 _ rfl rfl m).set (X':={a with c:={a.c with Wy:=c,WN:=v1,ret:=k,We:=v2}}) 60 _ rfl rfl m).drew.drew
  . exact pT
def agf (b d c)(g:af c)(r:Bool)(a:Nat)(h:G a)(e)(i:Hid (E e b d c)):
 an 38 #[I b,.bool r,j a] (.tuple #[]) [b] b d (l7 c r a) e:=by
 unfold l7;cases f:aa a 0<;>cases r<;>cases k:aa a 2
 . exact FD b d c g a h f e i
 . exact FD b d c g a h f e i
 . exact agk b d c g a h f k e i
 . exact agj b d c g a h f k e i
 . exact FC b d c g a h f e i
 . exact FC b d c g a h f e i
 . exact agi b d c g a h f k e i
 . exact agh b d c g a h f k e i
def afy (c:Nat)(a:Int)(b:a<0\/4294967295<a)(e:D):
 O 68 #[I c,j a] (j 2) e:=by
 rcases b with b|b
 . have d:decide (a<0)=true:=gZ;exact KS
 . have d:decide (a<0)=false:=M;have f:decide (a>4294967295)=true:=M;exact KS
def VZ (a:N)(b:Nat):{a with b:=jp a.b b}={a with b:={a.b with time:=eH a.b.time b,Wh:=eG a.b.time a.b.Wh b}}:=rfl
def afx (e n a)(f:af a)(c:Nat)(q:c<=4294967295)(p)(g:Hid (E p e n a)):
 an 68 #[I e,j c] (j 0) [e] e n ({a with b:=jp a.b c}) p:=by
 have r:=g.out.XP;have s:=g.out.XQ;have v:decide ((c:Int)<0)=false:=bL;have w:decide ((c:Int)>4294967295)=false:=M;have h:=l (hs a.b.time a.b.Wh c f.b.time f.b.Wh m);rw[VZ];obtain⟨o,i⟩:=y (eH a.b.time c);obtain⟨v1,k⟩:=y (eG a.b.time a.b.Wh c);simp only[<-i,<-k]at h|-;clear i k f q;go_enter func68,ntmps68;go_wp2_with(go_at_call 85;refine(h.out _).mono ?_;rintro u x ⟨rfl,b⟩;have d:=l (g.out.kept b);have d62:=d.out.XP;have d63:=d.out.XQ;have t:=d.out.Wb);all_goals
  go_ret;refine⟨rfl,?_,?_⟩
  . exact(d.out.set (X':={a with b:={a.b with time:=o}}) 62 _ rfl rfl m).set (X':={a with b:={a.b with time:=o,Wh:=v1}}) 63 _ rfl rfl m
  . exact vT
def aff (b d a e)(c:Hid (E e b d a)):
 an 70 #[I b] (.string a.b.Wc) [b] b d ({a with b:={a.b with Wc:=⟨#[]⟩}}) e:=by
 have f:=c.out.XL;have g:=c.out.Wb;go_enter func70,ntmps70;go_wp2_with fail;go_ret;refine⟨rfl,?_,?_⟩
 . exact c.out.set 70 _ rfl rfl m
 . exact AC
def q0 (a:N)(p b:Nat):Bool:=a.W9&&decide (0<b)&&decide ((a.WU:Int)-2147483648<p+b)&&decide ((p:Int)< (a.WU:Int)-2147483648+4)
def q1 (a:N)(p b:Nat):N:=if q0 a p b=true then hq a else a
theorem ais (d k b)(n:af b)(p a:Nat)(L:p<=65536)(K:a<=65536)(q)(e:Hid (E q d k b)):
 an 36 #[I d,j p,j a] (.tuple #[]) [d] d k (q1 b p a) q:=by
 have w:=e.out.XJ;have G:=e.out.XC;have B:=n.WU;have s:=l (fun W z=>rc d k b W z);unfold q1 q0;obtain⟨r,i⟩:=y ((b.WU:Int)-2147483648:Int);rw[<-i];have x:wrap64 ((b.WU:Int)-2147483648)=r:=by rw[<-w9,i];exact fj _ m
 have D:IntKind.i64.wrap ((b.WU:Int)-2147483648)=r:=by rw[w9];exact x
 have H:IntKind.i64.wrap ((p:Int)+a)=p+a:=lO;have J:IntKind.i64.wrap (r+4)=r+4:=lO;obtain⟨t,o⟩:=y (b.W9);rw[<-o]at w|-;obtain⟨f,c⟩:=y (decide (0<a));obtain⟨u,g⟩:=y (decide (r< (p:Int)+a));obtain⟨v,h⟩:=y (decide ((p:Int)<r+4));rw[<-c,<-g,<-h];have N:decide ((a:Int)>0)=f:=by rw[c];simp
 have F:decide ((0:Int)<a)=f:=by rw[c];simp
 have O:=c.symm;have P:=g.symm;have Q:=h.symm;clear o c g h n i B;cases t<;>cases f<;>cases u<;>cases v;all_goals
  go_enter func36,ntmps36;go_wp2_with(go_at_call 77;refine(s.out _ e).mono ?_;rintro M R ⟨rfl,C,A⟩);go_end0;first
  |exact⟨rfl,C,A⟩
  |exact⟨rfl,e.out,Kept.refl _ _⟩
def agq (f h a)(n:af a)(i:¬(br a.b (S a) a.V3).1.f=0)(e)(c:Hid (E e f h a)):
 an 81 #[I f] (.tuple #[ag ⟨0,0,0,0,0,0⟩,aR (a6 (br a.b (S a) a.V3).1.f 0) (br a.b (S a) a.V3).1.Yn]) [f,h] f h (a.V7 (br a.b (S a) a.V3).2) e:=by
 have B:=c.out.lt;have C:=c.out.Ww;have u:Hid (E ((e.alloc (.cells #[j 0,j 0,j 0,j 0,j 0,j 0] 60)).alloc (.cells #[j 0,j 0] 118)) f h a):=cB;have g:=l (fun W s=>uc f h a n W s);obtain⟨⟨d,A⟩,m⟩:∃d,d=br a.b (S a) a.V3:=⟨_,rfl⟩;simp only[<-m]at g i|-;try dsimp only at g i|-
 have k:ha d=.tuple #[j 0,.agg #[j (a6 d.f 0),j d.Yn]]:=by unfold ha;rw[z i]
 simp only[k]at g;have t:=jr d.f 0;obtain⟨r,o⟩:=y (a6 d.f 0);obtain⟨x,p⟩:=y (d.Yn);simp only[<-o,<-p]at g t|-;unfold ag aR;dsimp only;clear n m k o p i;go_enter func81,ntmps81;go_wp2_with fail;refine(g.out _ u).mono ?_;rintro w q ⟨rfl,v,b⟩;obtain⟨D,G,H,J,K,L,M,R,T,N,U,O,V,P,X,Q⟩:a7 q e.heap.size 0 0 0 0 0 0:=jF;obtain⟨Y,Z,aa,aj,ak,ac,al,ae,am,ah,ao,ai⟩:av q (e.heap.size+1) 0 0:=ii;go_upto_region 3 with(go_at_call 82;refine(cc _ _ _).mono ?_;rintro w ap ⟨rfl,rfl⟩);go_region;all_goals
  go_wp2_with fail;refine ab (v:=.tuple #[.agg #[j 0,j 0,j 0,j 0,j 0,j 0],.agg #[j r,j x]]) u0 rfl ⟨rfl,?_,?_⟩
  . refine v.more (G:=[e.heap.size,e.heap.size+1]) ?_ ad ad;exact jJ
  . exact nk
def ags (g k a)(r:af a)(f:(br a.b (S a) a.V3).1.f=0)(hd:¬(aP (br a.b (S a) a.V3).1.w).2=0)(d)(c:Hid (E d g k a)):
 an 81 #[I g] (.tuple #[ag ⟨0,0,0,0,0,0⟩,aR 2 (br a.b (S a) a.V3).1.w]) [g,k] g k (a.V7 (br a.b (S a) a.V3).2) d:=by
 have H:=c.out.lt;have J:=c.out.Ww;have C:Hid (E ((d.alloc (.cells #[j 0,j 0,j 0,j 0,j 0,j 0] 60)).alloc (.cells #[j 0,j 0] 118)) g k a):=cB;have h:=l (fun W z=>uc g k a r W z);obtain⟨⟨i,G⟩,q⟩:∃i,i=br a.b (S a) a.V3:=⟨_,rfl⟩;simp only[<-q]at h f hd|-;try dsimp only at h f hd|-
 have o:ha i=.tuple #[j i.w,.agg #[j (-1),j 0]]:=zu;simp only[o]at h;obtain⟨n,s⟩:=y (i.w);simp only[<-s]at h hd|-;have m:=l (fun W=>qf (n:Int) W);obtain⟨⟨⟨K,L,M,N,O,P⟩,x⟩,p⟩:∃w,w=aP (n:Int):=⟨_,rfl⟩;simp only[<-p]at m hd;try dsimp only at m hd
 unfold aV at m;have am:(x !=0)=true:=by simp[hd]
 unfold ag aR;dsimp only;clear r q o s f p hd;go_enter func81,ntmps81;go_wp2_with fail;refine(h.out _ C).mono ?_;rintro t u ⟨rfl,D,b⟩;obtain⟨Q,R,T,U,V,X,Y,ah,ai,Z,aj,aa,ak,ac,al,ae⟩:a7 u d.heap.size 0 0 0 0 0 0:=jF;obtain⟨ao,aq,au,aF,aG,ax,aH,ay,aI,az,aJ,aA⟩:av u (d.heap.size+1) 0 0:=ii;go_wp2_with(go_at_call 82;refine(cc _ _ _).mono ?_;rintro t aU ⟨rfl,rfl⟩);refine(m.out _).mono ?_;rintro t v ⟨rfl,A⟩;have e:=Below.kept A [];obtain⟨_,_,_,_,_,_,_,_,_,_,_,_,_,_,_,_⟩:a7 v d.heap.size 0 0 0 0 0 0:=zJ;obtain⟨ap,ar,aw,aM,aN,aB,aO,aC,aS,aD,aT,aE⟩:av v (d.heap.size+1) 0 0:=vu;go_wp2_with fail;refine ab (v:=.tuple #[.agg #[j 0,j 0,j 0,j 0,j 0,j 0],.agg #[j 2,j n]]) u0 rfl ⟨rfl,?_,?_⟩
 . refine((D.alloc _).alloc _ |>.kept e).more (G:=[d.heap.size,d.heap.size+1]) ?_ ad ad;repeat(first|(with_reducible exact Kept.refl _ _)|(with_reducible refine Kept.setCell ?_ (hy (by simp;done)) _)|(with_reducible refine Kept.setCell ?_ (ch aL) _)|(with_reducible refine Kept.drew ?_)|(with_reducible refine Kept.alloc ?_ _))
 . exact Av
theorem UK (e:D)(j v w g:TypeId)(b d f n:Nat)(a:K)(hu:prog.underlying j=some (.slice g))(l:(prog.info? g).map (·.size)=some 1)(y:a.size<=f)
 (p:∀c,c<a.size->(e.cell? ⟨b,d+c,none⟩).isSome=true) (r:∀c,c<a.size->e.frozen? ⟨b,d+c,none⟩=false):
 (Builtin.copy_ #[j,v] w #[.slice (some ⟨b,d,none⟩) f n,.string a]).run prog e=.ok (goInt a.size) (e.setCells b d (dr a.data.toList)):=by
 have k:(dr a.data.toList).length=a.size:=by rw[jd];simp
 have u:=run_storeCells_cells (P:=prog) b d (dr a.data.toList) 0 e (by rw[k];simpa using p) (by rw[k];simpa using r) (by
  intro z m;simp[dr]at m;obtain⟨x,_,rfl⟩:=m;rfl)
 have t:min a.size f=a.size:=J;have q:a.extract 0 a.size=a:=bL;cases h:prog.info? g with
 |none=>simp[h]at l
 |some i=>
  have s:i.size=1:=by simpa[h]using l
  have o:List.take a.size (List.map (fun b=>Value.int .u8 (b.toNat:Int)) a.data.toList)=dr a.data.toList:=by unfold dr;exact yT F
  simp[Builtin.copy_,run_underlying hu,Builtin.lenOf,Builtin.firstCells,_root_.Go.sizeOf,typeInfo,h,s,t,q,o];rw[u];rfl
def afl (b:Nat)(c:Int)(a:K)(e:65536<a.size)(d:D):
 O 23 #[I b,j c,.string a] (j 1) d:=by
 have f:decide (65536< (a.size:Int))=true:=M;exact L9
def afk (e i:Nat)(d:N)(n:d.b.o.length<=65536)(a:Int)(c:K)(o:c.size<=65536)(k:a<0\/(d.b.o.length:Int)-c.size<a)(f)(g:Hid (E f e i d)):
 O 23 #[I e,j a,.string c] (j 2) f:=by
 have q:decide (65536< (c.size:Int))=false:=M;have l:=g.out.V8;have p:=fj ((d.b.o.length:Int)-c.size) m;by_cases b:a<0
 . have h:decide (a<0)=true:=kq;exact Ma
 . have h:decide (a<0)=false:=M;have r:decide ((d.b.o.length:Int)-c.size<a)=true:=M;exact Ma
def kV (a:N)(b:Nat)(c:K):N:=q1 (bY a (laidB a.b.o b c.data.toList)) b c.size
def afj (g d b)(n:af b)(a:Nat)(e:K)(k:a+e.size<=b.b.o.length)(c)(i:Hid (E c g d b)):
 an 23 #[I g,j a,.string e] (j 0) [g,d] g d (kV b a e) c:=by
 have f:=n.b.o;have O:decide (65536< (e.size:Int))=false:=M;have P:decide ((a:Int)<0)=false:=bL;have Q:decide ((b.b.o.length:Int)-e.size< (a:Int))=false:=M;have L:=fj ((b.b.o.length:Int)-e.size) m;have H:=i.out.V8;have v:∃h,(∀c,(Instr.slice 64 (.slice (some ⟨d,0,none⟩) b.b.o.length b.b.o.length) (some (.int .i64 (a:Int))) none none).run prog c=.ok (.slice (some ⟨d,h,none⟩) (b.b.o.length-a) (b.b.o.length-a)) c)/\(e.size=0\/h=a):=by
  have f:∀c,(Instr.slice 64 (.slice (some ⟨d,0,none⟩) b.b.o.length b.b.o.length) (some (.int .i64 (a:Int))) none none).run prog c=.ok (.slice (if b.b.o.length=a then some ⟨d,0,none⟩else some ⟨d,a,none⟩) (b.b.o.length-a) (b.b.o.length-a)) c:=by
   intro c;have hu:prog.underlying 64=some (.slice (prog.elem 64)):=gX;have k:=run_slice_l (P:=prog) c 64 (some ⟨d,0,none⟩) b.b.o.length b.b.o.length hu .i64 (a:Int) m m;rw[k];have q:(_root_.Go.sizeOf (prog.elem 64)).run prog c=.ok 1 c:=gX;rw[q];simp only[Result.andThen,sliced];rw[show(a:Int).toNat=a by omega,oO,gQ,uE d 0 a,eg]
  by_cases o:b.b.o.length=a
  . exact z1
  . exact z6
 obtain⟨h,v,u⟩:=v;have C:(Builtin.copy_ #[64,9] 3 #[.slice (some ⟨d,h,none⟩) (b.b.o.length-a) (b.b.o.length-a),.string e]).run prog c=.ok (.int .i64 e.size) (c.setCells d a (dr e.data.toList)):=by
  have:=UK c 64 9 3 5 d h (b.b.o.length-a) (b.b.o.length-a) e gP w5 m (fun A J=>by
   rw[i.out.o (h+A) (by omega)];rfl) (fun A _=>i.out.XA _)
  rw[this];rcases u with p|p
  . have q:dr e.data.toList=[]:=yF (by rw[jd];simpa using p);rw[q];rfl
  . rw[p];rfl
 have x:=l (E.laid e.data.toList a i.out (by simpa using k));have t:Hid (Kept [g,d] c (c.setCells d a (dr e.data.toList))):=l (Kept.Xh _ (.inl F) _ _ _ (Kept.refl _ _));have s:af (bY b (laidB b.b.o a e.data.toList)):={n with b:=tC n.b (xb _ _ _)};have r:=l (ais g d _ s a e.size m m _ x);unfold kV;obtain⟨R,w⟩:=y (c.setCells d a (dr e.data.toList));rw[<-w]at C t r;clear n s w x i u k;go_enter func23,ntmps23;go_wp2_with fail;refine r.out.mono ?_;rintro N S ⟨rfl,G,D⟩;go_wp2_with fail;go_ret;exact⟨rfl,G,t.out.trans (D.mono F)⟩
end
end Go.Proofs.YtmlgonbhoknoiabGreatDoor
