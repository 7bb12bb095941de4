import Derived.Test.YtmlgonbhoknoiaaGreatDoorJAH
import Derived.Test.YtmlgonbhoknoiaaGreatDoorJAO
set_option maxHeartbeats 8000000
set_option maxRecDepth 100000
set_option linter.all false
namespace Go.Proofs.YtmlgonbhoknoiaaGreatDoor
open Go.RowKit Go.Proofs.Tryz
section
attribute [local go_sem ↓] Go.wp_at_zero Go.wp_at_succ
def E.box {w c:D}{b rb:Nat}{d:N}(e:E w b rb d)(a:Nat)(f:Kept [a] w c)(g:b<a)(h:rb<a):E c b rb d:=e.more f (by simp;omega) (by simp;omega)
def eB (b:D)(d:Obj)(a c:Nat)(e:¬a=b.heap.size):(b.alloc d).frozen? ⟨a,c,none⟩=b.frozen? ⟨a,c,none⟩:=by
 by_cases f:a<b.heap.size
 . exact((Kept.refl [] b).alloc d).frozen (p:=⟨a,c,none⟩) f F
 . simp only[World.frozen?,World.alloc];rw[Array.getElem?_push,z e]
def Tm (a c:Nat)(b:G a):hM a c<4294967296:=by
 unfold hM;split
 . exact fu _ _ 32 (fu _ _ 32 b R) R
 . exact fu _ _ 32 b R
def ahh (e f:Nat)(b:N)(D:b.b.o.length<=65536)(i:nk)(d p:Nat)(w:i.a=2147483648+p)(C:p+4<=b.b.o.length)(q:G i.e)(r)(a:Hid (E r e f b)):
 an 335 #[I e,ft i,j d] (.tuple #[]) [f] e f (bZ b (bu b.b.o p 4 (hM i.e d))) r:=by
 obtain⟨n,c,F,P⟩:=i;dsimp only at w q|-;unfold ft;dsimp only;have J:bits .or .i64 (c:Int) 64=((c |||64:Nat):Int):=g8 c 64 m m;have H:(c |||64)<4294967296:=fu _ _ 32 q R;have v:=Tm c d q;obtain⟨h,o⟩:=y (c |||64);rw[<-o]at J H;have K:bits .or .i64 (h:Int) 128=((h |||128:Nat):Int):=g8 h 128 m m;have g:hM c d=if d=2 then h |||128 else h:=by rw[o];rfl
 obtain⟨k,t⟩:=y (hM c d);rw[<-t]at g v|-;have s:∀W,Hid (E W e f b)->an 347 #[I e,j n,j 4,j k] (.tuple #[]) [f] e f (bZ b (bu b.b.o p 4 k)) W:=fun W A=>tL e f b D n p 4 m m m C k v W A;have L:=l s;have O:Hid (E (r.alloc (.cells #[j n,j c,j F] 252)) e f b):=b7;clear s o t a w;by_cases u:d=2
 . subst u;rw[B rfl]at g;rw[<-g]at K;clear g;exact Jy
 . rw[z u]at g;subst g;have Q:((d:Int)==2)=false:=M;exact Jy
def fV (a:(Nat×Nat)×P)(c b:Nat):Value:=if a.1.2=0 then .tuple #[j a.1.1,.agg #[j (-1),j 0]]else .tuple #[j 0,.agg #[j (a7 a.1.2 b),j c]]
def tO (a:N)(c:af a)(b:Int):cx (S a) b=0\/cx (S a) b=1\/cx (S a) b=3:=by
 have d:=c.mode;have e:=c.Wl;unfold cx S;dsimp only;exact rX
def Pc (b a:Nat)(e:a=4095\/a=4194303):bits .and .i64 (b:Int) (a:Int)=((b% (a+1):Nat):Int):=by
 rcases e with rfl|rfl
 . have:=i7 (b:Int) 12 R;have c:((2:Int)^12)=4096:=cM;have d:((2^12-1:Nat):Int)=((4095:Nat):Int):=cM;exact vq
 . have:=i7 (b:Int) 22 R;have c:((2:Int)^22)=4194304:=cM;have d:((2^22-1:Nat):Int)=((4194303:Nat):Int):=cM;exact vq
def ai2 (g i b)(f:af b)(o e:Nat)(d:hQ (S b) e=false)(n)(a:Hid (E n g i b)):
 aE 261 #[I g,j o,j e] (.tuple #[j o,.agg #[j (-1),j 0]]) n:=by
 have D:=a.out.lt;have x:=a.out.Yv;have A:=f.Wf;have h:=tO b f e;have w:=l (fun W z=>tC g i b f.V5 e W z);have C:Hid (E (n.alloc (.cells #[j 0,j 0] 118)) g i b):=b7;unfold hQ at d;have t:(S b).Wf=b.c.Wf:=rfl;rw[t]at d;obtain⟨c,s⟩:=y (b.c.Wf);rw[<-s]at x A d;obtain⟨u,r⟩:=y (cx (S b) e);simp only[<-r]at h d w;have v:bits .and .i64 (c:Int) 2147483648=((c&&&2147483648:Nat):Int):=vO;have k:=eV (c&&&2147483648);rw[show decide (c&&&2147483648=0)=!ab c 31 from dj c 31,<-v]at k;clear r s a t v f;by_cases p:u=3
 . subst p;clear d h k;exact Jz
 . have F:((u:Int)==3)=false:=M;rw[B (by simp;omega)]at d;have q:ab c 31=false:=vP;rw[q]at k;clear d h q p;exact Jz
def ai0 (n q b)(i:af b)(g h:Nat)(Q:G g)(d:hQ (S b) h=true)(r:(cg b.b b.c.Wf g).f≠0)(o)(a:Hid (E o n q b)):
 aE 261 #[I n,j g,j h] (.tuple #[j 0,.agg #[j (a7 (cg b.b b.c.Wf g).f h),j g]]) o:=by
 have U:=a.out.lt;have O:=a.out.Yv;have P:=i.Wf;have x:=tO b i h;have w:=l (fun W e=>tC n q b i.V5 h W e);have k:=l (fun W e=>x8 n q b i.b.o i.Wf g Q W e);have J:Hid (E (o.alloc (.cells #[j 0,j 0] 118)) n q b):=b7;unfold hQ at d;have H:(S b).Wf=b.c.Wf:=rfl;rw[H]at d;obtain⟨c,p⟩:=y (b.c.Wf);rw[<-p]at O P d;obtain⟨u,C⟩:=y (cx (S b) h);simp only[<-C]at x d w;have D:u<3:=by
  by_cases e:u<3
  . exact e
  . exact zS
 rw[B (by simpa using D)]at d;have L:bits .and .i64 (c:Int) 2147483648=((c&&&2147483648:Nat):Int):=vO;have N:=eV (c&&&2147483648);rw[show decide (c&&&2147483648=0)=!ab c 31 from dj c 31,<-L]at N;have A:ab c 31=true:=vP;rw[A]at N;have ad:((u:Int)==3)=false:=M;simp only[<-p]at k;rw[<-p]at r|-;obtain⟨R,s⟩:=y (cg b.b c g);simp only[<-s]at k;rw[<-s]at r|-;clear s a i;clear C p H L A d x D;obtain⟨Y,Z,aa,t⟩:=R;unfold ft at k;dsimp only at k r|-;have f1:((t:Int)==0)=false:=M;have f2:((t:Int) !=0)=true:=M;go_enter func261,ntmps261;go_wp2_with(first|(go_at_call 332;refine(w.out _ J).mono ?_;rintro K v ⟨rfl,rfl⟩));refine(k.out _ J).mono ?_;rintro K v ⟨rfl,f⟩;obtain⟨X,T⟩:=f.box o.heap.size aL F;have V:o.heap.size<v.heap.size:=AV;go_wp2_with(first|(go_at_call 275;refine(tF _ _ _).mono ?_;rintro K v ⟨rfl,rfl⟩));exact ac (v:=.tuple #[j 0,.agg #[j (a7 t h),j g]]) FX rfl ⟨rfl,yF⟩
def ai1 (k o b)(i:af b)(h g:Nat)(Q:G h)(N:g=0\/g=1\/g=2)(d:hQ (S b) g=true)(r:(cg b.b b.c.Wf h).f=0)(q:g5 (S b) (cg b.b b.c.Wf h).e g (cx (S b) g)=false)(s)(a:Hid (E s k o b)):
 aE 261 #[I k,j h,j g] (.tuple #[j 0,.agg #[j (a7 1 g),j h]]) s:=by
 have aj:=a.out.lt;have Y:=a.out.Yv;have aa:=i.Wf;have K:=tO b i g;have H:=l (fun W e=>tC k o b i.V5 g W e);have p:=l (fun W e=>x8 k o b i.b.o i.Wf h Q W e);have C:Hid (E (s.alloc (.cells #[j 0,j 0] 118)) k o b):=b7;unfold hQ at d;have P:(S b).Wf=b.c.Wf:=rfl;rw[P]at d;obtain⟨c,u⟩:=y (b.c.Wf);rw[<-u]at Y aa d;obtain⟨n,A⟩:=y (cx (S b) g);simp only[<-A]at K d H;have O:n<3:=by
  by_cases e:n<3
  . exact e
  . exact zS
 have Z:n=0\/n=1:=J;rw[B (by simpa using O)]at d;have T:bits .and .i64 (c:Int) 2147483648=((c&&&2147483648:Nat):Int):=vO;have U:=eV (c&&&2147483648);rw[show decide (c&&&2147483648=0)=!ab c 31 from dj c 31,<-T]at U;have L:ab c 31=true:=vP;rw[L]at U;have al:((n:Int)==3)=false:=M;simp only[<-u]at p;have x:=(EV b.b b.c.Wf h Q r).2.2.2.1;rw[<-u]at r x q;obtain⟨R,w⟩:=y (cg b.b c h);simp only[<-w]at p;rw[<-w]at r x q;rw[<-A]at q;have v:=l (fun W e=>Fu k o b i.V5 R.e n g x Z N W e);simp only[q]at v;clear w a i q N;clear A u P T L d K O;obtain⟨ae,ag,ah,ak⟩:=R;dsimp only at r;subst r;unfold ft at p;dsimp only at p v|-;go_enter func261,ntmps261;go_wp2_with(first|(go_at_call 332;refine(H.out _ C).mono ?_;rintro D t ⟨rfl,rfl⟩));refine(p.out _ C).mono ?_;rintro D t ⟨rfl,f⟩;obtain⟨X,ai⟩:=f.box s.heap.size aL F;have V:s.heap.size<t.heap.size:=AV;have ad:Hid (E (t.alloc (.cells #[j ae,j ag,j ah] 252)) k o b):=l ((C.out.kept f).alloc _);go_wp2_with(first|(go_at_call 334;refine(v.out _ ad).mono ?_;rintro D t ⟨rfl,rfl⟩)|(go_at_call 275;refine(tF _ _ _).mono ?_;rintro D t ⟨rfl,rfl⟩));exact ac (v:=.tuple #[j 0,.agg #[j (a7 1 g),j h]]) FX rfl ⟨rfl,yF⟩
def ai3 (q s b)(t:af b)(h i:Nat)(au:G h)(am:i=0\/i=1\/i=2)(d:hQ (S b) i=true)(C:(cg b.b b.c.Wf h).f=0)(A:g5 (S b) (cg b.b b.c.Wf h).e i (cx (S b) i)=true)(n)(a:Hid (E n q s b)):
 an 261 #[I q,j h,j i] (.tuple #[j (((cg b.b b.c.Wf h).e/1024*4096+h% ((cg b.b b.c.Wf h).ip+1):Nat):Int),.agg #[j (-1),j 0]]) [s] q s (bZ b (bu b.b.o ((cg b.b b.c.Wf h).a-2147483648) 4 (hM (cg b.b b.c.Wf h).e i))) n:=by
 have aC:=a.out.lt;have aE:=a.out.Ww;have aA:=a.out.Yv;have aF:=t.Wf;have ak:=tO b t i;have ag:=l (fun W e=>tC q s b t.V5 i W e);have x:=l (fun W e=>x8 q s b t.b.o t.Wf h au W e);have X:Hid (E (n.alloc (.cells #[j 0,j 0] 118)) q s b):=b7;unfold hQ at d;have ar:(S b).Wf=b.c.Wf:=rfl;rw[ar]at d;obtain⟨c,O⟩:=y (b.c.Wf);rw[<-O]at aA aF d;obtain⟨w,U⟩:=y (cx (S b) i);simp only[<-U]at ak d ag;have ao:w<3:=by
  by_cases e:w<3
  . exact e
  . exact zS
 have aD:w=0\/w=1:=J;rw[B (by simpa using ao)]at d;have ay:bits .and .i64 (c:Int) 2147483648=((c&&&2147483648:Nat):Int):=vO;have az:=eV (c&&&2147483648);rw[show decide (c&&&2147483648=0)=!ab c 31 from dj c 31,<-ay]at az;have al:ab c 31=true:=vP;rw[al]at az;have aV:((w:Int)==3)=false:=M;simp only[<-O]at x;obtain⟨ad,H,aX,D,L⟩:=EV b.b b.c.Wf h au C;rw[<-O]at C D A ad H L|-;obtain⟨k,T⟩:=y (cg b.b c h);simp only[<-T]at x;rw[<-T]at C D A ad H L|-;rw[<-U]at A;have Q:=l (fun W e=>Fu q s b t.V5 k.e w i D aD am W e);simp only[A]at Q;obtain⟨p,aq⟩:=y (k.a-2147483648);have ap:k.a=2147483648+p:=J;rw[<-aq]at H|-;have K:=l (fun W e=>ahh q s b t.b.o k i p ap H D W e);have P:=fun W=>l (x5 k.e D W);have ae:=Pc h k.ip L;obtain⟨g,R⟩:=y (k.e/1024*4096);obtain⟨r,V⟩:=y (h% (k.ip+1));have aP:g<17179869184:=J;have aQ:G r:=by have:=Nat.mod_le h (k.ip+1);omega
 simp only[<-R]at P;rw[<-V]at ae;rw[<-R,<-V];have wr:IntKind.i64.wrap ((g:Int)+(r:Int))=((g+r:Nat):Int):=dG;clear T a t A am R V aq ap L ad H;clear U O ar ay al d ak ao;obtain⟨aO,aj⟩:=y (bZ b (bu b.b.o p 4 (hM k.e i)));simp only[<-aj]at K|-;clear aj;obtain⟨aK,aw,ax,aU⟩:=k;dsimp only at C;subst C;unfold ft at x;dsimp only at x Q|-;go_enter func261,ntmps261;go_wp2_with(first|(go_at_call 332;refine(ag.out _ X).mono ?_;rintro o u ⟨rfl,rfl⟩));refine(x.out _ X).mono ?_;rintro o u ⟨rfl,f⟩;obtain⟨Y,ah⟩:=f.box n.heap.size aL F;have aH:n.heap.size<u.heap.size:=AV;have av:Hid (E (u.alloc (.cells #[j aK,j aw,j ax] 252)) q s b):=l ((X.out.kept f).alloc _);unfold ft at K;dsimp only at K ae P;go_upto_region 10 with(first|(go_at_call 334;refine(Q.out _ av).mono ?_;rintro o u ⟨rfl,rfl⟩)|(go_at_call 335;refine(K.out _ av).mono ?_;rintro o v ⟨rfl,aG,N⟩;obtain⟨Z,aB⟩:=N.box u.heap.size aL aL;obtain⟨aa,ai⟩:=N.box n.heap.size aL aL;have aI:u.heap.size<v.heap.size:=aR F N.size;have aM:v.cell? ⟨n.heap.size,0,none⟩=some (j 0):=(aa 0).trans ((ec _ _ _ _ m).trans ((Y 0).trans F));have aN:v.cell? ⟨n.heap.size,1,none⟩=some (j 0):=(aa 1).trans ((ec _ _ _ _ m).trans ((Y 1).trans F));have aW:∀o,v.frozen? ⟨n.heap.size,o,none⟩=false:=(fun o=>(ai o).trans ((eB _ _ _ _ m).trans ((ah o).trans F)));have aS:v.cell? ⟨u.heap.size,1,none⟩=some (j aw):=(Z 1).trans F;have aT:v.cell? ⟨u.heap.size,2,none⟩=some (j ax):=(Z 2).trans F;clear Z aa Y ah aB ai;have aJ:n.heap.size<v.heap.size:=jw aH aI));go_region_with(first|(go_at_call 336;refine(P _).out.mono ?_;rintro o w3 ⟨rfl,rfl⟩)|(go_at_call 199;refine(on _).mono ?_;rintro o w3 ⟨rfl,rfl⟩));all_goals
  go_wp2_with fail;refine ac (v:=.tuple #[j ((g+r:Nat):Int),.agg #[j (-1),j 0]]) (by simp[results,results261,go_sem,aM,aN,aJ,ej,fb]) rfl ⟨rfl,aG.box n.heap.size ?_ aC aE,?_⟩
  . exact fI
  . repeat(first|(with_reducible exact Kept.refl _ _)|(with_reducible refine Kept.setCell ?_ (ci aL) _)|(with_reducible refine Kept.drew ?_)|(with_reducible refine Kept.alloc ?_ _)|(with_reducible refine Kept.trans ?_ N)|(with_reducible refine Kept.trans ?_ (f.mono F)))
theorem mK (g h a)(m:af a)(b c:Nat)(o:G b)(s:c=0\/c=1\/c=2)(k)(f:Hid (E k g h a)):
 an 261 #[I g,j b,j c] (fV (a3 a.b (S a) b c) b c) [h] g h (a.V7 (a3 a.b (S a) b c).2) k:=by
 cases i:hQ (S a) c with
 |false=>
  have p:a3 a.b (S a) b c=((b,0),a.b):=by unfold a3;rw[i];rfl
  rw[p];refine(ai2 g h a m b c i k f).mono ?_;rintro q r ⟨rfl,d⟩;exact⟨rfl,f.out.kept d,d.mono F⟩
 |true=>
  have p:a3 a.b (S a) b c=hq a.b (S a) (cg a.b a.c.Wf b) b c (cx (S a) c):=by
   unfold a3;rw[i,B rfl];exact aaS a.b (S a) a.c.Wf b c _ o
  rw[p];by_cases e:(cg a.b a.c.Wf b).f=0
  . cases n:g5 (S a) (cg a.b a.c.Wf b).e c (cx (S a) c)with
    |false=>
     have l:hq a.b (S a) (cg a.b a.c.Wf b) b c (cx (S a) c)=((0,1),a.b):=by unfold hq;rw[B e,n];rfl
     rw[l];refine(ai1 g h a m b c o s i e n k f).mono ?_;rintro q r ⟨rfl,d⟩;exact⟨rfl,f.out.kept d,d.mono F⟩
    |true=>
     have l:hq a.b (S a) (cg a.b a.c.Wf b) b c (cx (S a) c)=(((cg a.b a.c.Wf b).e/1024*4096+b% ((cg a.b a.c.Wf b).ip+1),0),{a.b with o:=bu a.b.o ((cg a.b a.c.Wf b).a-2147483648) 4 (hM (cg a.b a.c.Wf b).e c)}):=by unfold hq;rw[B e,n];rfl
     rw[l];refine(ai3 g h a m b c o s i e n k f).mono ?_;rintro q r ⟨rfl,t,d⟩;exact⟨rfl,t,d⟩
  . have l:hq a.b (S a) (cg a.b a.c.Wf b) b c (cx (S a) c)=((0,(cg a.b a.c.Wf b).f),a.b):=by unfold hq;rw[z e]
    rw[l];refine(ai0 g h a m b c o i e k f).mono ?_;rintro q r ⟨rfl,d⟩;refine⟨?_,f.out.kept d,d.mono F⟩;unfold fV;dsimp only;rw[z e]
def N.okB {c:N}(a:af c){b:P}(d:aT b):af (c.V7 b):=⟨d,a.x,a.WE,a.V3,a.mode,a.V5,a.Wf,a.Wd,a.Wo,a.WG,a.V9,a.Wz,a.Wp,a.W8,a.WK,a.Wm,a.Wx,a.WB,a.WH,a.WA,a.WR,a.Wu,a.WD,a.WI,a.Wy,a.WN,a.ret,a.We,a.WU,a.Wl⟩
def jo (a b:Int):(a7 a b==-1)=false:=by
 unfold a7;repeat' split
 all_goals decide
theorem Fm (h k c)(u:af c)(d:Nat)(ab:G d)(e)(a:Hid (E e h k c)):
 an 192 #[I h,j d] (fV (ck c.b (S c) d) d 0) [k] h k (c.V7 (ck c.b (S c) d).2) e:=by
 have J:=a.out.lt;have M:=a.out.Ww;have Q:Hid (E (e.alloc (.cells #[j 0,j 0] 118)) h k c):=b7;have o:Hid (∀W,Hid (E W h k c)->an 261 #[I h,j d,j 0] (fV (a3 c.b (S c) d 0) d 0) [k] h k (c.V7 (a3 c.b (S c) d 0).2) W):=l (fun W q=>mK h k c u d 0 ab (.inl rfl) W q);have A:=fA u.b (S c) d 0;have aa:=(fW c.b (S c) d 0 ab).1;unfold ck;obtain⟨ah,H⟩:=y (a3 c.b (S c) d 0);simp only[<-H]at o;rw[<-H]at A aa|-;clear H;obtain⟨⟨n,s⟩,g⟩:=ah;have x:=N.okB u A;have L:=A.o;dsimp only at o A aa x L|-;unfold nJ;dsimp only;by_cases v:s=0
 . subst v;rw[B rfl];rw[show fV ((n,0),g) d 0=.tuple #[j n,.agg #[j (-1),j 0]]from rfl]at o;have t:∀W,Hid (E W h k (c.V7 g))->O 262 #[I h,j n,j 2] (.bool (a1 n 2 g.o.length)) W:=fun W q=>oq h k (c.V7 g) L n 2 m m m m W q;cases w:a1 (n:Nat) 2 g.o.length with
   |false=>
    rw[z (by simp)];rw[show fV ((0,2),g) d 0=.tuple #[j 0,.agg #[j 1,j d]]from rfl];simp only[w]at t;have D:=l t;clear t w u a x;go_enter func192,ntmps192;go_wp2_with fail;refine(o.out _ Q).mono ?_;rintro r i ⟨rfl,f,b⟩;have T:al i e.heap.size 0 (j 0):=pI;have U:al i e.heap.size 1 (j 0):=pI;have ad:dY i e.heap.size:=AW;have V:e.heap.size<i.heap.size:=fo;have C:Hid (E ((i.alloc (.cells #[j (-1),j 0] 118)).alloc (.cells #[j (-1),j 0] 118)) h k (c.V7 g)):=pJ;go_wp2_with(first|(go_at_call 83;refine(cd _ _ _).mono ?_;rintro r ag ⟨rfl,rfl⟩)|(go_at_call 262;refine(D.out _ C).mono ?_;rintro r ae ⟨rfl,rfl⟩));refine ac (v:=.tuple #[j 0,.agg #[j 1,j d]]) yH rfl ⟨rfl,f.box e.heap.size ?_ J M,?_⟩
    . exact fI
    . exact im
   |true=>
    rw[B rfl];have K:2147483648<=n/\n-2147483648+2<=g.o.length:=by
     have q:=w;unfold a1 at q;simp at q;omega
    obtain⟨p,Z⟩:=y (n-2147483648);rw[<-Z]at K|-;have X:Hid (∀W,Hid (E W h k (c.V7 g))->O 263 #[I h,j n,j 2] (j (cc g p 2)) W):=l (fun W q=>tK h k (c.V7 g) L n p 2 m m m K.2 W q);obtain⟨R,P⟩:=y (cc g p 2);simp only[<-P]at X;rw[<-P];rw[show fV ((R,0),g) d 0=.tuple #[j R,.agg #[j (-1),j 0]]from rfl];simp only[w]at t;have D:=l t;clear t w u a x Z K P;go_enter func192,ntmps192;go_wp2_with fail;refine(o.out _ Q).mono ?_;rintro r i ⟨rfl,f,b⟩;have T:al i e.heap.size 0 (j 0):=pI;have U:al i e.heap.size 1 (j 0):=pI;have ad:dY i e.heap.size:=AW;have V:e.heap.size<i.heap.size:=fo;have C:Hid (E ((i.alloc (.cells #[j (-1),j 0] 118)).alloc (.cells #[j (-1),j 0] 118)) h k (c.V7 g)):=pJ;have ak:=l C.out.drew;go_upto_region 6 with(first|(go_at_call 83;refine(cd _ _ _).mono ?_;rintro r ag ⟨rfl,rfl⟩)|(go_at_call 262;refine(D.out _ C).mono ?_;rintro r ae ⟨rfl,rfl⟩));go_region_with(first|(go_at_call 263;refine(X.out _ ak).mono ?_;rintro r ae ⟨rfl,rfl⟩));all_goals
     go_wp2_with fail;refine ac (v:=.tuple #[j R,.agg #[j (-1),j 0]]) yH rfl ⟨rfl,f.box e.heap.size ?_ J M,?_⟩
     . exact fI
     . exact im
 . rw[z v];rw[show fV ((n,s),g) d 0=.tuple #[j 0,.agg #[j (a7 s 0),j d]]by unfold fV;dsimp only;rw[z v];rfl]at o;rw[show fV ((0,s),g) d 0=.tuple #[j 0,.agg #[j (a7 s 0),j d]]by unfold fV;dsimp only;rw[z v];rfl];have aj:=jo s 0;obtain⟨ai,Y⟩:=y (a7 s 0);simp only[<-Y]at o aj|-;clear v u a x Y;go_enter func192,ntmps192;go_wp2_with fail;refine(o.out _ Q).mono ?_;rintro r i ⟨rfl,f,b⟩;have T:al i e.heap.size 0 (j 0):=pI;have U:al i e.heap.size 1 (j 0):=pI;have ad:dY i e.heap.size:=AW;have V:e.heap.size<i.heap.size:=fo;go_upto_region 3 with(first|(go_at_call 83;refine(cd _ _ _).mono ?_;rintro r ag ⟨rfl,rfl⟩));go_region;all_goals
    go_wp2_with fail;refine ac (v:=.tuple #[j 0,.agg #[j ai,j d]]) yH rfl ⟨rfl,f.box e.heap.size ?_ J M,?_⟩
    . exact fI
    . exact im
structure vR where
 w:Nat
 f:Nat
 Yn:Nat
def bs (c:P)(b:Q)(a:Nat):vR×P:=
 if(ck c b a).1.2=0 then
  (if(ck c b a).1.1%4=3 then
    (if(ck (ck c b a).2 b ((a+2)%4294967296)).1.2=0 then(⟨(ck c b a).1.1+(ck (ck c b a).2 b ((a+2)%4294967296)).1.1*65536,0,0⟩,(ck (ck c b a).2 b ((a+2)%4294967296)).2)
     else(⟨0,(ck (ck c b a).2 b ((a+2)%4294967296)).1.2,(a+2)%4294967296⟩,(ck (ck c b a).2 b ((a+2)%4294967296)).2))
   else(⟨(ck c b a).1.1,0,0⟩,(ck c b a).2))
 else(⟨0,(ck c b a).1.2,a⟩,(ck c b a).2)
def hb (a:vR):Value:=if a.f=0 then .tuple #[j a.w,.agg #[j (-1),j 0]]else .tuple #[j 0,.agg #[j (a7 a.f 0),j a.Yn]]
def B1 (a:P)(b:Q)(c:Nat):(ck a b c).1.1<65536:=by
 unfold ck nJ;repeat' split
 all_goals dsimp only
 . exact s3 _ _ 2
 all_goals omega
def mD (a:(Nat×Nat)×P)(d c:Nat)(b:a.1.2=0):fV a d c=.tuple #[j a.1.1,.agg #[j (-1),j 0]]:=by unfold fV;rw[B b]
def tp (a:(Nat×Nat)×P)(c b:Nat)(d:¬a.1.2=0):fV a c b=.tuple #[j 0,.agg #[j (a7 a.1.2 b),j c]]:=by unfold fV;rw[z d]
def afq (a:Nat):am ((a:Int)+2)=(a+2)%4294967296:=by unfold am;omega
def tG (s t c)(r:af c)(d)(a:Hid (E d s t c)):
 an 132 #[I s] (hb (bs c.b (S c) c.V3).1) [t] s t (c.V7 (bs c.b (S c) c.V3).2) d:=by
 have ak:=a.out.lt;have ao:=a.out.Ww;have aG:=a.out.Xk;have az:=r.V3;have Q:Hid (E (d.alloc (.cells #[j 0,j 0] 118)) s t c):=b7;have p:=l (fun W Z=>Fm s t c r c.V3 az W Z);have P:=nK r.b (S c) c.V3;have ap:=B1 c.b (S c) c.V3;unfold bs;have aj:∀i,(c.V7 i).V3=c.V3:=fun _=>rfl;obtain⟨V,J⟩:=y (ck c.b (S c) c.V3);simp only[<-J]at p P ap|-;clear J;obtain⟨⟨h,u⟩,i⟩:=V;have x:=N.okB r P;dsimp only at P ap x|-;by_cases G:u=0
 . subst G;rw[B rfl];simp only[mD ((h,0),i) c.V3 0 rfl]at p;try dsimp only at p
   have K:bits .and .i64 (h:Int) 3=((h%4:Nat):Int):=by rw[Bl];simp
   by_cases w:h%4=3
   . rw[B w];rw[w]at K;have aF:bits .and .i64 (h:Int) 3=3:=K;have o:=l (fun W Z=>Fm s t (c.V7 i) x ((c.V3+2)%4294967296) m W Z);have av:S (c.V7 i)=S c:=rfl;have aw:(c.V7 i).b=i:=rfl;simp only[av,aw]at o;have ab:=nK P (S c) ((c.V3+2)%4294967296);have ae:=B1 i (S c) ((c.V3+2)%4294967296);have X:Hid (∀W,O 136 #[j ((c.V3:Int)+2)] (j ((c.V3+2)%4294967296:Nat)) W):=l (fun W=>by have:=e0 ((c.V3:Int)+2) W;rw[afq]at this;exact this);obtain⟨A,am⟩:=y ((c.V3+2)%4294967296);simp only[<-am]at o ab ae X|-;obtain⟨V,J⟩:=y (ck i (S c) A);simp only[<-J]at o ab ae|-;clear J am K;obtain⟨⟨q,f2⟩,M⟩:=V;have ax:(c.V7 i).V7 M=c.V7 M:=rfl;simp only[ax]at o;dsimp only at o ab ae|-;by_cases H:f2=0
     . subst H;rw[B rfl];simp only[mD ((q,0),M) A 0 rfl]at o;rw[show hb ⟨h+q*65536,0,0⟩=.tuple #[j ((h+q*65536:Nat):Int),.agg #[j (-1),j 0]]from rfl];try dsimp only at o|-
       have wr:IntKind.i64.wrap ((q:Int)*65536)=((q*65536:Nat):Int):=dG;have aI:IntKind.i64.wrap ((h:Int)+((q*65536:Nat):Int))=((h+q*65536:Nat):Int):=dG;clear r x a w;go_enter func132,ntmps132;go_wp2_with fail;refine(p.out _ Q).mono ?_;rintro k e ⟨rfl,f,b⟩;have R:al e d.heap.size 0 (j 0):=eU;have T:al e d.heap.size 1 (j 0):=eU;have ai:dY e d.heap.size:=jI;have U:d.heap.size<e.heap.size:=fo;have Y:=f.Xk;have ay:=f.lt;rw[aj]at Y;have ag:Hid (E ((e.alloc (.cells #[j (-1),j 0] 118)).alloc (.cells #[j (-1),j 0] 118)) s t (c.V7 i)):=pJ;go_wp2_with(first|(go_at_call 83;refine(cd _ _ _).mono ?_;rintro k L ⟨rfl,rfl⟩)|(go_at_call 136;refine(X.out _).mono ?_;rintro k g ⟨rfl,rfl⟩));refine(o.out _ ag).mono ?_;rintro k g ⟨rfl,ah,n⟩;have aq:al g d.heap.size 0 (j 0):=lu;have ar:al g d.heap.size 1 (j 0):=lu;have aE:dY g d.heap.size:=uu;have au:d.heap.size<g.heap.size:=mZ;have aA:al g e.heap.size 0 (j (-1)):=lu;have aB:al g e.heap.size 1 (j 0):=lu;have aC:dY g e.heap.size:=uu;have aD:e.heap.size<g.heap.size:=mZ;go_upto_region 7 with(first|(go_at_call 83;refine(cd _ _ _).mono ?_;rintro k L ⟨rfl,rfl⟩));go_region;all_goals
        go_wp2_with fail;refine ac (v:=.tuple #[j ((h+q*65536:Nat):Int),.agg #[j (-1),j 0]]) FY rfl ⟨rfl,ah.more (G:=[d.heap.size,e.heap.size]) ?_ ad ad,?_⟩
        . exact fI
        . exact vr
     . rw[z H];simp only[tp ((q,f2),M) A 0 H]at o;rw[show hb ⟨0,f2,A⟩=.tuple #[j 0,.agg #[j (a7 f2 0),j A]]by unfold hb;dsimp only;rw[z H]];try dsimp only at o|-
       have aa:=jo f2 0;obtain⟨D,v⟩:=y (a7 f2 0);have C:a7 f2 ((0:Nat):Int)=D:=v.symm;simp only[C]at o;rw[<-v]at aa|-;clear r x a w H v C;go_enter func132,ntmps132;go_wp2_with fail;refine(p.out _ Q).mono ?_;rintro k e ⟨rfl,f,b⟩;have R:al e d.heap.size 0 (j 0):=eU;have T:al e d.heap.size 1 (j 0):=eU;have ai:dY e d.heap.size:=jI;have U:d.heap.size<e.heap.size:=fo;have Y:=f.Xk;have ay:=f.lt;rw[aj]at Y;have ag:Hid (E ((e.alloc (.cells #[j (-1),j 0] 118)).alloc (.cells #[j (-1),j 0] 118)) s t (c.V7 i)):=pJ;go_wp2_with(first|(go_at_call 83;refine(cd _ _ _).mono ?_;rintro k L ⟨rfl,rfl⟩)|(go_at_call 136;refine(X.out _).mono ?_;rintro k g ⟨rfl,rfl⟩));refine(o.out _ ag).mono ?_;rintro k g ⟨rfl,ah,n⟩;have aq:al g d.heap.size 0 (j 0):=lu;have ar:al g d.heap.size 1 (j 0):=lu;have aE:dY g d.heap.size:=uu;have au:d.heap.size<g.heap.size:=mZ;have aA:al g e.heap.size 0 (j (-1)):=lu;have aB:al g e.heap.size 1 (j 0):=lu;have aC:dY g e.heap.size:=uu;have aD:e.heap.size<g.heap.size:=mZ;go_upto_region 6 with(first|(go_at_call 83;refine(cd _ _ _).mono ?_;rintro k L ⟨rfl,rfl⟩));go_region;all_goals
        go_wp2_with fail;refine ac (v:=.tuple #[j 0,.agg #[j D,j A]]) FY rfl ⟨rfl,ah.more (G:=[d.heap.size,e.heap.size]) ?_ ad ad,?_⟩
        . exact fI
        . exact vr
   . rw[z w];have aH:(bits .and .i64 (h:Int) 3 !=3)=true:=by rw[K];simp;omega
     rw[show hb ⟨h,0,0⟩=.tuple #[j h,.agg #[j (-1),j 0]]from rfl];clear r x a w K;go_enter func132,ntmps132;go_wp2_with fail;refine(p.out _ Q).mono ?_;rintro k e ⟨rfl,f,b⟩;have R:al e d.heap.size 0 (j 0):=eU;have T:al e d.heap.size 1 (j 0):=eU;have ai:dY e d.heap.size:=jI;have U:d.heap.size<e.heap.size:=fo;go_upto_region 3 with(first|(go_at_call 83;refine(cd _ _ _).mono ?_;rintro k L ⟨rfl,rfl⟩));go_region;all_goals
      go_wp2_with fail;refine ac (v:=.tuple #[j h,.agg #[j (-1),j 0]]) FZ rfl ⟨rfl,f.box d.heap.size ?_ ak ao,?_⟩
      . exact fI
      . exact im
 . rw[z G];simp only[tp ((h,u),i) c.V3 0 G]at p;rw[show hb ⟨0,u,c.V3⟩=.tuple #[j 0,.agg #[j (a7 u 0),j c.V3]]by unfold hb;dsimp only;rw[z G]];try dsimp only at p|-
   have aa:=jo u 0;obtain⟨D,v⟩:=y (a7 u 0);have C:a7 u ((0:Nat):Int)=D:=v.symm;simp only[C]at p;rw[<-v]at aa|-;clear r x a G v C;go_enter func132,ntmps132;go_wp2_with fail;refine(p.out _ Q).mono ?_;rintro k e ⟨rfl,f,b⟩;have R:al e d.heap.size 0 (j 0):=eU;have T:al e d.heap.size 1 (j 0):=eU;have ai:dY e d.heap.size:=jI;have U:d.heap.size<e.heap.size:=fo;go_upto_region 3 with(first|(go_at_call 83;refine(cd _ _ _).mono ?_;rintro k L ⟨rfl,rfl⟩));go_region;all_goals
    go_wp2_with fail;refine ac (v:=.tuple #[j 0,.agg #[j D,j c.V3]]) FZ rfl ⟨rfl,f.box d.heap.size ?_ ak ao,?_⟩
    . exact fI
    . exact im
def qp (b:Nat)(a:(Nat×Nat)×P):(Nat×Nat)×P:=if a.1.2=0 then(if bF (a.1.1:Nat) (b:Nat) a.2.o.length=true then a else((0,2),a.2))else((0,a.1.2),a.2)
def hn (a:P)(b:Q)(e d c:Nat):(Nat×Nat)×P:=qp d (a3 a b e c)
def j1 (a:(Nat×Nat)×P)(d c b:Nat):Value:=if a.1.2=0 then .tuple #[.agg #[j a.1.1,j c],.agg #[j (-1),j 0]]else .tuple #[.agg #[j 0,j 0],.agg #[j (a7 a.1.2 b),j d]]
def es (a b:Int):Bool:=decide (b=4/\(a=33554432\/a=33570816\/a=33570820\/a=33603576\/a=33603580))
def e4 (a b:Int):Bool:=decide (b=1/\(a=268435456\/a=268435457\/a=268435458\/a=268435461\/a=268435463))
theorem qB (a b:Int)(c:Nat):bF a b c=(a1 a b c ||es a b ||e4 a b):=by
 unfold bF;cases a1 a b c
 . simp only[ul];rw[z (by simp)];have f:es a b=(decide (b=4)&&eK a):=by unfold es eK;simp
   have g:e4 a b=(decide (b=1)&&ep a):=by unfold e4 ep;simp
   rw[f,g];cases e:eK a with
   |true=>
    have d:ep a=false:=by unfold eK at e;unfold ep;simp at e|-;omega
    rw[d];simp
   |false=>cases d:ep a<;>simp
 . simp
def U5 {a:P}(e:aT a)(b:Q)(d f c:Nat):aT (hn a b d f c).2:=by
 have:=fA e b d c;unfold hn qp;exact zO
def x7 (p q h)(u:af h)(i e d:Nat)(ae:G i)(aA:1<=e)(aB:e<=4)(ar:d=0\/d=1\/d=2)(a)(c:Hid (E a p q h)):
 an 340 #[I p,j i,j e,j d] (j1 (hn h.b (S h) i e d) i e d) [q] p q (h.V7 (hn h.b (S h) i e d).2) a:=by
 have az:=c.out.lt;have aC:=c.out.Ww;have Y:Hid (E ((a.alloc (.cells #[j 0,j 0] 231)).alloc (.cells #[j 0,j 0] 118)) p q h):=cD;have o:=l (fun W D=>mK p q h u i d ae ar W D);have w:=fA u.b (S h) i d;have aa:=(fW h.b (S h) i d ae).1;unfold hn;obtain⟨ak,K⟩:=y (a3 h.b (S h) i d);simp only[<-K]at o;rw[<-K]at w aa|-;clear K;obtain⟨⟨k,s⟩,n⟩:=ak;have M:=N.okB u w;have ab:=w.o;dsimp only at o w aa M ab|-;unfold qp;dsimp only;by_cases t:s=0
 . subst t;rw[B rfl];simp only[mD ((k,0),n) i d rfl]at o;have x:∀W,Hid (E W p q (h.V7 n))->O 262 #[I p,j k,j e] (.bool (a1 k e n.o.length)) W:=fun W D=>oq p q (h.V7 n) ab k e m m m m W D;have C:∀W,O 341 #[j k,j e] (.bool (es k e)) W:=fun W=>tJ k e m m W;have A:∀W,O 343 #[j k,j e] (.bool (e4 k e)) W:=fun W=>x4 k e m m W;have ag:Hid (∀W,O 275 #[j 2,j d] (j (a7 2 d)) W):=l (fun W=>tF 2 d W);rw[qB];obtain⟨am,H⟩:=y (a1 k e n.o.length);obtain⟨ap,L⟩:=y (es k e);obtain⟨ao,J⟩:=y (e4 k e);simp only[<-H]at x;simp only[<-L]at C;simp only[<-J]at A;rw[<-H,<-L,<-J];have ah:=l x;have aj:=l C;have ai:=l A;try dsimp only at o
   clear x C A H L J u M c;cases am;case true=>
    exact zT
   cases ap;case true=>
    exact zT
   cases ao;case true=>
    exact zT
   rw[z (by simp)];rw[show j1 ((0,2),n) i e d=.tuple #[.agg #[j 0,j 0],.agg #[j (a7 2 d),j i]]from rfl];go_enter func340,ntmps340;go_wp2_with fail;refine(o.out _ Y).mono ?_;rintro r g ⟨rfl,f,b⟩;have Q:al g a.heap.size 0 (j 0):=eU;have R:al g a.heap.size 1 (j 0):=eU;have aw:dY g a.heap.size:=jI;have T:a.heap.size<g.heap.size:=fo;have U:al g (a.heap.size+1) 0 (j 0):=eU;have V:al g (a.heap.size+1) 1 (j 0):=eU;have ax:dY g (a.heap.size+1):=jI;have X:a.heap.size+1<g.heap.size:=fo;have av:Hid (E ((g.alloc (.cells #[j (-1),j 0] 118)).alloc (.cells #[j (-1),j 0] 118)) p q (h.V7 n)):=pJ;go_wp2_with(first|(go_at_call 83;refine(cd _ _ _).mono ?_;rintro r ay ⟨rfl,rfl⟩)|(go_at_call 262;refine(ah.out _ av).mono ?_;rintro r P ⟨rfl,rfl⟩)|(go_at_call 341;refine(aj.out _).mono ?_;rintro r P ⟨rfl,rfl⟩)|(go_at_call 343;refine(ai.out _).mono ?_;rintro r P ⟨rfl,rfl⟩)|(go_at_call 275;refine(ag.out _).mono ?_;rintro r P ⟨rfl,rfl⟩));refine ac (v:=.tuple #[.agg #[j 0,j 0],.agg #[j (a7 2 d),j i]]) yI rfl ⟨rfl,f.more (G:=[a.heap.size,a.heap.size+1]) ?_ ad ad,?_⟩
   . exact fI
   . exact im
 . rw[z t];simp only[tp ((k,s),n) i d t]at o;rw[show j1 ((0,s),n) i e d=.tuple #[.agg #[j 0,j 0],.agg #[j (a7 s d),j i]]by unfold j1;dsimp only;rw[z t]];try dsimp only at o
   have au:=jo s d;obtain⟨aq,Z⟩:=y (a7 s d);simp only[<-Z]at o au|-;clear t u c M Z;go_enter func340,ntmps340;go_wp2_with fail;refine(o.out _ Y).mono ?_;rintro r g ⟨rfl,f,b⟩;have Q:al g a.heap.size 0 (j 0):=eU;have R:al g a.heap.size 1 (j 0):=eU;have aw:dY g a.heap.size:=jI;have T:a.heap.size<g.heap.size:=fo;have U:al g (a.heap.size+1) 0 (j 0):=eU;have V:al g (a.heap.size+1) 1 (j 0):=eU;have ax:dY g (a.heap.size+1):=jI;have X:a.heap.size+1<g.heap.size:=fo;go_upto_region 3 with(first|(go_at_call 83;refine(cd _ _ _).mono ?_;rintro r ay ⟨rfl,rfl⟩));go_region;all_goals
    go_wp2_with fail;refine ac (v:=.tuple #[.agg #[j 0,j 0],.agg #[j aq,j i]]) yI rfl ⟨rfl,f.more (G:=[a.heap.size,a.heap.size+1]) ?_ ad ad,?_⟩
    . exact fI
    . exact im
end
end Go.Proofs.YtmlgonbhoknoiaaGreatDoor
