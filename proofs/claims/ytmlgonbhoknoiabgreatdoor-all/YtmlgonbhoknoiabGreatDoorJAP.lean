import Derived.Test.YtmlgonbhoknoiabGreatDoorJAH
import Derived.Test.YtmlgonbhoknoiabGreatDoorJAO
set_option maxHeartbeats 8000000
set_option maxRecDepth 100000
set_option linter.all false
namespace Go.Proofs.YtmlgonbhoknoiabGreatDoor
open Go.RowKit Go.Proofs.Tryz
section
attribute [local go_sem ↓] Go.wp_at_zero Go.wp_at_succ
def E.box {w c:D}{b rb:Nat}{d:N}(e:E w b rb d)(a:Nat)(f:Kept [a] w c)(g:b<a)(h:rb<a):E c b rb d:=e.more f (by simp;omega) (by simp;omega)
def eB (b:D)(d:Obj)(a c:Nat)(e:¬a=b.heap.size):(b.alloc d).frozen? ⟨a,c,none⟩=b.frozen? ⟨a,c,none⟩:=by
 by_cases f:a<b.heap.size
 . exact((Kept.refl [] b).alloc d).frozen (p:=⟨a,c,none⟩) f F
 . simp only[World.frozen?,World.alloc];rw[Array.getElem?_push,z e]
def S7 (a c:Nat)(b:G a):hM a c<4294967296:=by
 unfold hM;split
 . exact ft _ _ 32 (ft _ _ 32 b R) R
 . exact ft _ _ 32 b R
def agD (e f:Nat)(b:N)(D:b.b.o.length<=65536)(i:np)(d p:Nat)(w:i.a=2147483648+p)(C:p+4<=b.b.o.length)(q:G i.e)(r)(a:Hid (E r e f b)):
 an 334 #[I e,fs i,j d] (.tuple #[]) [f] e f (bY b (bt b.b.o p 4 (hM i.e d))) r:=by
 obtain⟨n,c,F,P⟩:=i;dsimp only at w q|-;unfold fs;dsimp only;have J:bits .or .i64 (c:Int) 64=((c |||64:Nat):Int):=g7 c 64 m m;have H:(c |||64)<4294967296:=ft _ _ 32 q R;have v:=S7 c d q;obtain⟨h,o⟩:=y (c |||64);rw[<-o]at J H;have K:bits .or .i64 (h:Int) 128=((h |||128:Nat):Int):=g7 h 128 m m;have g:hM c d=if d=2 then h |||128 else h:=by rw[o];rfl
 obtain⟨k,t⟩:=y (hM c d);rw[<-t]at g v|-;have s:∀W,Hid (E W e f b)->an 346 #[I e,j n,j 4,j k] (.tuple #[]) [f] e f (bY b (bt b.b.o p 4 k)) W:=fun W A=>uh e f b D n p 4 m m m C k v W A;have L:=l s;have O:Hid (E (r.alloc (.cells #[j n,j c,j F] 252)) e f b):=b6;clear s o t a w;by_cases u:d=2
 . subst u;rw[B rfl]at g;rw[<-g]at K;clear g;exact JS
 . rw[z u]at g;subst g;have Q:((d:Int)==2)=false:=M;exact JS
def fU (a:(Nat×Nat)×P)(c b:Nat):Value:=if a.1.2=0 then .tuple #[j a.1.1,.agg #[j (-1),j 0]]else .tuple #[j 0,.agg #[j (a6 a.1.2 b),j c]]
def uk (a:N)(c:af a)(b:Int):cv (S a) b=0\/cv (S a) b=1\/cv (S a) b=3:=by
 have d:=c.mode;have e:=c.Wl;unfold cv S;dsimp only;exact sm
def PH (b a:Nat)(e:a=4095\/a=4194303):bits .and .i64 (b:Int) (a:Int)=((b% (a+1):Nat):Int):=by
 rcases e with rfl|rfl
 . have:=ja (b:Int) 12 R;have c:((2:Int)^12)=4096:=cK;have d:((2^12-1:Nat):Int)=((4095:Nat):Int):=cK;exact vM
 . have:=ja (b:Int) 22 R;have c:((2:Int)^22)=4194304:=cK;have d:((2^22-1:Nat):Int)=((4194303:Nat):Int):=cK;exact vM
def aio (g i b)(f:af b)(o e:Nat)(d:hQ (S b) e=false)(n)(a:Hid (E n g i b)):
 aE 260 #[I g,j o,j e] (.tuple #[j o,.agg #[j (-1),j 0]]) n:=by
 have D:=a.out.lt;have x:=a.out.Yv;have A:=f.Wf;have h:=uk b f e;have w:=l (fun W z=>tY g i b f.V5 e W z);have C:Hid (E (n.alloc (.cells #[j 0,j 0] 118)) g i b):=b6;unfold hQ at d;have t:(S b).Wf=b.c.Wf:=rfl;rw[t]at d;obtain⟨c,s⟩:=y (b.c.Wf);rw[<-s]at x A d;obtain⟨u,r⟩:=y (cv (S b) e);simp only[<-r]at h d w;have v:bits .and .i64 (c:Int) 2147483648=((c&&&2147483648:Nat):Int):=wf;have k:=eV (c&&&2147483648);rw[show decide (c&&&2147483648=0)=!aa c 31 from dg c 31,<-v]at k;clear r s a t v f;by_cases p:u=3
 . subst p;clear d h k;exact JT
 . have F:((u:Int)==3)=false:=M;rw[B (by simp;omega)]at d;have q:aa c 31=false:=wg;rw[q]at k;clear d h q p;exact JT
def aim (n q b)(i:af b)(g h:Nat)(Q:G g)(d:hQ (S b) h=true)(r:(cf b.b b.c.Wf g).f≠0)(o)(a:Hid (E o n q b)):
 aE 260 #[I n,j g,j h] (.tuple #[j 0,.agg #[j (a6 (cf b.b b.c.Wf g).f h),j g]]) o:=by
 have U:=a.out.lt;have O:=a.out.Yv;have P:=i.Wf;have x:=uk b i h;have w:=l (fun W e=>tY n q b i.V5 h W e);have k:=l (fun W e=>yu n q b i.b.o i.Wf g Q W e);have J:Hid (E (o.alloc (.cells #[j 0,j 0] 118)) n q b):=b6;unfold hQ at d;have H:(S b).Wf=b.c.Wf:=rfl;rw[H]at d;obtain⟨c,p⟩:=y (b.c.Wf);rw[<-p]at O P d;obtain⟨u,C⟩:=y (cv (S b) h);simp only[<-C]at x d w;have D:u<3:=by
  by_cases e:u<3
  . exact e
  . exact Aj
 rw[B (by simpa using D)]at d;have L:bits .and .i64 (c:Int) 2147483648=((c&&&2147483648:Nat):Int):=wf;have N:=eV (c&&&2147483648);rw[show decide (c&&&2147483648=0)=!aa c 31 from dg c 31,<-L]at N;have A:aa c 31=true:=wg;rw[A]at N;have ad:((u:Int)==3)=false:=M;simp only[<-p]at k;rw[<-p]at r|-;obtain⟨R,s⟩:=y (cf b.b c g);simp only[<-s]at k;rw[<-s]at r|-;clear s a i;clear C p H L A d x D;obtain⟨Y,Z,ac,t⟩:=R;unfold fs at k;dsimp only at k r|-;have f1:((t:Int)==0)=false:=M;have f2:((t:Int) !=0)=true:=M;go_enter func260,ntmps260;go_wp2_with(first|(go_at_call 331;refine(w.out _ J).mono ?_;rintro K v ⟨rfl,rfl⟩));refine(k.out _ J).mono ?_;rintro K v ⟨rfl,f⟩;obtain⟨X,T⟩:=f.box o.heap.size aL F;have V:o.heap.size<v.heap.size:=Bg;go_wp2_with(first|(go_at_call 274;refine(ub _ _ _).mono ?_;rintro K v ⟨rfl,rfl⟩));exact ab (v:=.tuple #[j 0,.agg #[j (a6 t h),j g]]) Gg rfl ⟨rfl,y6⟩
def ain (k o b)(i:af b)(h g:Nat)(Q:G h)(N:g=0\/g=1\/g=2)(d:hQ (S b) g=true)(r:(cf b.b b.c.Wf h).f=0)(q:g4 (S b) (cf b.b b.c.Wf h).e g (cv (S b) g)=false)(s)(a:Hid (E s k o b)):
 aE 260 #[I k,j h,j g] (.tuple #[j 0,.agg #[j (a6 1 g),j h]]) s:=by
 have aj:=a.out.lt;have Y:=a.out.Yv;have ac:=i.Wf;have K:=uk b i g;have H:=l (fun W e=>tY k o b i.V5 g W e);have p:=l (fun W e=>yu k o b i.b.o i.Wf h Q W e);have C:Hid (E (s.alloc (.cells #[j 0,j 0] 118)) k o b):=b6;unfold hQ at d;have P:(S b).Wf=b.c.Wf:=rfl;rw[P]at d;obtain⟨c,u⟩:=y (b.c.Wf);rw[<-u]at Y ac d;obtain⟨n,A⟩:=y (cv (S b) g);simp only[<-A]at K d H;have O:n<3:=by
  by_cases e:n<3
  . exact e
  . exact Aj
 have Z:n=0\/n=1:=J;rw[B (by simpa using O)]at d;have T:bits .and .i64 (c:Int) 2147483648=((c&&&2147483648:Nat):Int):=wf;have U:=eV (c&&&2147483648);rw[show decide (c&&&2147483648=0)=!aa c 31 from dg c 31,<-T]at U;have L:aa c 31=true:=wg;rw[L]at U;have al:((n:Int)==3)=false:=M;simp only[<-u]at p;have x:=(Fg b.b b.c.Wf h Q r).2.2.2.1;rw[<-u]at r x q;obtain⟨R,w⟩:=y (cf b.b c h);simp only[<-w]at p;rw[<-w]at r x q;rw[<-A]at q;have v:=l (fun W e=>FO k o b i.V5 R.e n g x Z N W e);simp only[q]at v;clear w a i q N;clear A u P T L d K O;obtain⟨ae,ag,ah,ak⟩:=R;dsimp only at r;subst r;unfold fs at p;dsimp only at p v|-;go_enter func260,ntmps260;go_wp2_with(first|(go_at_call 331;refine(H.out _ C).mono ?_;rintro D t ⟨rfl,rfl⟩));refine(p.out _ C).mono ?_;rintro D t ⟨rfl,f⟩;obtain⟨X,ai⟩:=f.box s.heap.size aL F;have V:s.heap.size<t.heap.size:=Bg;have ad:Hid (E (t.alloc (.cells #[j ae,j ag,j ah] 252)) k o b):=l ((C.out.kept f).alloc _);go_wp2_with(first|(go_at_call 333;refine(v.out _ ad).mono ?_;rintro D t ⟨rfl,rfl⟩)|(go_at_call 274;refine(ub _ _ _).mono ?_;rintro D t ⟨rfl,rfl⟩));exact ab (v:=.tuple #[j 0,.agg #[j (a6 1 g),j h]]) Gg rfl ⟨rfl,y6⟩
def aip (q s b)(t:af b)(h i:Nat)(au:G h)(am:i=0\/i=1\/i=2)(d:hQ (S b) i=true)(C:(cf b.b b.c.Wf h).f=0)(A:g4 (S b) (cf b.b b.c.Wf h).e i (cv (S b) i)=true)(n)(a:Hid (E n q s b)):
 an 260 #[I q,j h,j i] (.tuple #[j (((cf b.b b.c.Wf h).e/1024*4096+h% ((cf b.b b.c.Wf h).ip+1):Nat):Int),.agg #[j (-1),j 0]]) [s] q s (bY b (bt b.b.o ((cf b.b b.c.Wf h).a-2147483648) 4 (hM (cf b.b b.c.Wf h).e i))) n:=by
 have aC:=a.out.lt;have aE:=a.out.Ww;have aA:=a.out.Yv;have aF:=t.Wf;have ak:=uk b t i;have ag:=l (fun W e=>tY q s b t.V5 i W e);have x:=l (fun W e=>yu q s b t.b.o t.Wf h au W e);have X:Hid (E (n.alloc (.cells #[j 0,j 0] 118)) q s b):=b6;unfold hQ at d;have ar:(S b).Wf=b.c.Wf:=rfl;rw[ar]at d;obtain⟨c,O⟩:=y (b.c.Wf);rw[<-O]at aA aF d;obtain⟨w,U⟩:=y (cv (S b) i);simp only[<-U]at ak d ag;have ao:w<3:=by
  by_cases e:w<3
  . exact e
  . exact Aj
 have aD:w=0\/w=1:=J;rw[B (by simpa using ao)]at d;have ay:bits .and .i64 (c:Int) 2147483648=((c&&&2147483648:Nat):Int):=wf;have az:=eV (c&&&2147483648);rw[show decide (c&&&2147483648=0)=!aa c 31 from dg c 31,<-ay]at az;have al:aa c 31=true:=wg;rw[al]at az;have aV:((w:Int)==3)=false:=M;simp only[<-O]at x;obtain⟨ad,H,aX,D,L⟩:=Fg b.b b.c.Wf h au C;rw[<-O]at C D A ad H L|-;obtain⟨k,T⟩:=y (cf b.b c h);simp only[<-T]at x;rw[<-T]at C D A ad H L|-;rw[<-U]at A;have Q:=l (fun W e=>FO q s b t.V5 k.e w i D aD am W e);simp only[A]at Q;obtain⟨p,aq⟩:=y (k.a-2147483648);have ap:k.a=2147483648+p:=J;rw[<-aq]at H|-;have K:=l (fun W e=>agD q s b t.b.o k i p ap H D W e);have P:=fun W=>l (yr k.e D W);have ae:=PH h k.ip L;obtain⟨g,R⟩:=y (k.e/1024*4096);obtain⟨r,V⟩:=y (h% (k.ip+1));have aP:g<17179869184:=J;have aR:G r:=by have:=Nat.mod_le h (k.ip+1);omega
 simp only[<-R]at P;rw[<-V]at ae;rw[<-R,<-V];have wr:IntKind.i64.wrap ((g:Int)+(r:Int))=((g+r:Nat):Int):=dE;clear T a t A am R V aq ap L ad H;clear U O ar ay al d ak ao;obtain⟨aO,aj⟩:=y (bY b (bt b.b.o p 4 (hM k.e i)));simp only[<-aj]at K|-;clear aj;obtain⟨aK,aw,ax,aU⟩:=k;dsimp only at C;subst C;unfold fs at x;dsimp only at x Q|-;go_enter func260,ntmps260;go_wp2_with(first|(go_at_call 331;refine(ag.out _ X).mono ?_;rintro o u ⟨rfl,rfl⟩));refine(x.out _ X).mono ?_;rintro o u ⟨rfl,f⟩;obtain⟨Y,ah⟩:=f.box n.heap.size aL F;have aH:n.heap.size<u.heap.size:=Bg;have av:Hid (E (u.alloc (.cells #[j aK,j aw,j ax] 252)) q s b):=l ((X.out.kept f).alloc _);unfold fs at K;dsimp only at K ae P;go_upto_region 10 with(first|(go_at_call 333;refine(Q.out _ av).mono ?_;rintro o u ⟨rfl,rfl⟩)|(go_at_call 334;refine(K.out _ av).mono ?_;rintro o v ⟨rfl,aG,N⟩;obtain⟨Z,aB⟩:=N.box u.heap.size aL aL;obtain⟨ac,ai⟩:=N.box n.heap.size aL aL;have aI:u.heap.size<v.heap.size:=aQ F N.size;have aM:v.cell? ⟨n.heap.size,0,none⟩=some (j 0):=(ac 0).trans ((eb _ _ _ _ m).trans ((Y 0).trans F));have aN:v.cell? ⟨n.heap.size,1,none⟩=some (j 0):=(ac 1).trans ((eb _ _ _ _ m).trans ((Y 1).trans F));have aW:∀o,v.frozen? ⟨n.heap.size,o,none⟩=false:=(fun o=>(ai o).trans ((eB _ _ _ _ m).trans ((ah o).trans F)));have aS:v.cell? ⟨u.heap.size,1,none⟩=some (j aw):=(Z 1).trans F;have aT:v.cell? ⟨u.heap.size,2,none⟩=some (j ax):=(Z 2).trans F;clear Z ac Y ah aB ai;have aJ:n.heap.size<v.heap.size:=jz aH aI));go_region_with(first|(go_at_call 335;refine(P _).out.mono ?_;rintro o w3 ⟨rfl,rfl⟩)|(go_at_call 198;refine(ou _).mono ?_;rintro o w3 ⟨rfl,rfl⟩));all_goals
  go_wp2_with fail;refine ab (v:=.tuple #[j ((g+r:Nat):Int),.agg #[j (-1),j 0]]) (by simp[results,results260,go_sem,aM,aN,aJ,ei,fb]) rfl ⟨rfl,aG.box n.heap.size ?_ aC aE,?_⟩
  . exact fH
  . repeat(first|(with_reducible exact Kept.refl _ _)|(with_reducible refine Kept.setCell ?_ (ch aL) _)|(with_reducible refine Kept.drew ?_)|(with_reducible refine Kept.alloc ?_ _)|(with_reducible refine Kept.trans ?_ N)|(with_reducible refine Kept.trans ?_ (f.mono F)))
theorem mI (g h a)(m:af a)(b c:Nat)(o:G b)(s:c=0\/c=1\/c=2)(k)(f:Hid (E k g h a)):
 an 260 #[I g,j b,j c] (fU (a2 a.b (S a) b c) b c) [h] g h (a.V7 (a2 a.b (S a) b c).2) k:=by
 cases i:hQ (S a) c with
 |false=>
  have p:a2 a.b (S a) b c=((b,0),a.b):=by unfold a2;rw[i];rfl
  rw[p];refine(aio g h a m b c i k f).mono ?_;rintro q r ⟨rfl,d⟩;exact⟨rfl,f.out.kept d,d.mono F⟩
 |true=>
  have p:a2 a.b (S a) b c=hp a.b (S a) (cf a.b a.c.Wf b) b c (cv (S a) c):=by
   unfold a2;rw[i,B rfl];exact aae a.b (S a) a.c.Wf b c _ o
  rw[p];by_cases e:(cf a.b a.c.Wf b).f=0
  . cases n:g4 (S a) (cf a.b a.c.Wf b).e c (cv (S a) c)with
    |false=>
     have l:hp a.b (S a) (cf a.b a.c.Wf b) b c (cv (S a) c)=((0,1),a.b):=by unfold hp;rw[B e,n];rfl
     rw[l];refine(ain g h a m b c o s i e n k f).mono ?_;rintro q r ⟨rfl,d⟩;exact⟨rfl,f.out.kept d,d.mono F⟩
    |true=>
     have l:hp a.b (S a) (cf a.b a.c.Wf b) b c (cv (S a) c)=(((cf a.b a.c.Wf b).e/1024*4096+b% ((cf a.b a.c.Wf b).ip+1),0),{a.b with o:=bt a.b.o ((cf a.b a.c.Wf b).a-2147483648) 4 (hM (cf a.b a.c.Wf b).e c)}):=by unfold hp;rw[B e,n];rfl
     rw[l];refine(aip g h a m b c o s i e n k f).mono ?_;rintro q r ⟨rfl,t,d⟩;exact⟨rfl,t,d⟩
  . have l:hp a.b (S a) (cf a.b a.c.Wf b) b c (cv (S a) c)=((0,(cf a.b a.c.Wf b).f),a.b):=by unfold hp;rw[z e]
    rw[l];refine(aim g h a m b c o i e k f).mono ?_;rintro q r ⟨rfl,d⟩;refine⟨?_,f.out.kept d,d.mono F⟩;unfold fU;dsimp only;rw[z e]
def N.okB {c:N}(a:af c){b:P}(d:aS b):af (c.V7 b):=⟨d,a.x,a.WE,a.V3,a.mode,a.V5,a.Wf,a.Wd,a.Wo,a.WG,a.V9,a.Wz,a.Wp,a.W8,a.WK,a.Wm,a.Wx,a.WB,a.WH,a.WA,a.WR,a.Wu,a.WD,a.WI,a.Wy,a.WN,a.ret,a.We,a.WU,a.Wl⟩
def jr (a b:Int):(a6 a b==-1)=false:=by
 unfold a6;repeat' split
 all_goals decide
theorem FH (h k c)(u:af c)(d:Nat)(ac:G d)(e)(a:Hid (E e h k c)):
 an 191 #[I h,j d] (fU (cj c.b (S c) d) d 0) [k] h k (c.V7 (cj c.b (S c) d).2) e:=by
 have J:=a.out.lt;have M:=a.out.Ww;have Q:Hid (E (e.alloc (.cells #[j 0,j 0] 118)) h k c):=b6;have o:Hid (∀W,Hid (E W h k c)->an 260 #[I h,j d,j 0] (fU (a2 c.b (S c) d 0) d 0) [k] h k (c.V7 (a2 c.b (S c) d 0).2) W):=l (fun W q=>mI h k c u d 0 ac (.inl rfl) W q);have A:=fz u.b (S c) d 0;have aa:=(fV c.b (S c) d 0 ac).1;unfold cj;obtain⟨ah,H⟩:=y (a2 c.b (S c) d 0);simp only[<-H]at o;rw[<-H]at A aa|-;clear H;obtain⟨⟨n,s⟩,g⟩:=ah;have x:=N.okB u A;have L:=A.o;dsimp only at o A aa x L|-;unfold nN;dsimp only;by_cases v:s=0
 . subst v;rw[B rfl];rw[show fU ((n,0),g) d 0=.tuple #[j n,.agg #[j (-1),j 0]]from rfl]at o;have t:∀W,Hid (E W h k (c.V7 g))->O 261 #[I h,j n,j 2] (.bool (aZ n 2 g.o.length)) W:=fun W q=>ow h k (c.V7 g) L n 2 m m m m W q;cases w:aZ (n:Nat) 2 g.o.length with
   |false=>
    rw[z (by simp)];rw[show fU ((0,2),g) d 0=.tuple #[j 0,.agg #[j 1,j d]]from rfl];simp only[w]at t;have D:=l t;clear t w u a x;go_enter func191,ntmps191;go_wp2_with fail;refine(o.out _ Q).mono ?_;rintro r i ⟨rfl,f,b⟩;have T:al i e.heap.size 0 (j 0):=pY;have U:al i e.heap.size 1 (j 0):=pY;have ad:dX i e.heap.size:=Bh;have V:e.heap.size<i.heap.size:=fn;have C:Hid (E ((i.alloc (.cells #[j (-1),j 0] 118)).alloc (.cells #[j (-1),j 0] 118)) h k (c.V7 g)):=pZ;go_wp2_with(first|(go_at_call 82;refine(cc _ _ _).mono ?_;rintro r ag ⟨rfl,rfl⟩)|(go_at_call 261;refine(D.out _ C).mono ?_;rintro r ae ⟨rfl,rfl⟩));refine ab (v:=.tuple #[j 0,.agg #[j 1,j d]]) y8 rfl ⟨rfl,f.box e.heap.size ?_ J M,?_⟩
    . exact fH
    . exact io
   |true=>
    rw[B rfl];have K:2147483648<=n/\n-2147483648+2<=g.o.length:=by
     have q:=w;unfold aZ at q;simp at q;omega
    obtain⟨p,Z⟩:=y (n-2147483648);rw[<-Z]at K|-;have X:Hid (∀W,Hid (E W h k (c.V7 g))->O 262 #[I h,j n,j 2] (j (cb g p 2)) W):=l (fun W q=>ug h k (c.V7 g) L n p 2 m m m K.2 W q);obtain⟨R,P⟩:=y (cb g p 2);simp only[<-P]at X;rw[<-P];rw[show fU ((R,0),g) d 0=.tuple #[j R,.agg #[j (-1),j 0]]from rfl];simp only[w]at t;have D:=l t;clear t w u a x Z K P;go_enter func191,ntmps191;go_wp2_with fail;refine(o.out _ Q).mono ?_;rintro r i ⟨rfl,f,b⟩;have T:al i e.heap.size 0 (j 0):=pY;have U:al i e.heap.size 1 (j 0):=pY;have ad:dX i e.heap.size:=Bh;have V:e.heap.size<i.heap.size:=fn;have C:Hid (E ((i.alloc (.cells #[j (-1),j 0] 118)).alloc (.cells #[j (-1),j 0] 118)) h k (c.V7 g)):=pZ;have ak:=l C.out.drew;go_upto_region 6 with(first|(go_at_call 82;refine(cc _ _ _).mono ?_;rintro r ag ⟨rfl,rfl⟩)|(go_at_call 261;refine(D.out _ C).mono ?_;rintro r ae ⟨rfl,rfl⟩));go_region_with(first|(go_at_call 262;refine(X.out _ ak).mono ?_;rintro r ae ⟨rfl,rfl⟩));all_goals
     go_wp2_with fail;refine ab (v:=.tuple #[j R,.agg #[j (-1),j 0]]) y8 rfl ⟨rfl,f.box e.heap.size ?_ J M,?_⟩
     . exact fH
     . exact io
 . rw[z v];rw[show fU ((n,s),g) d 0=.tuple #[j 0,.agg #[j (a6 s 0),j d]]by unfold fU;dsimp only;rw[z v];rfl]at o;rw[show fU ((0,s),g) d 0=.tuple #[j 0,.agg #[j (a6 s 0),j d]]by unfold fU;dsimp only;rw[z v];rfl];have aj:=jr s 0;obtain⟨ai,Y⟩:=y (a6 s 0);simp only[<-Y]at o aj|-;clear v u a x Y;go_enter func191,ntmps191;go_wp2_with fail;refine(o.out _ Q).mono ?_;rintro r i ⟨rfl,f,b⟩;have T:al i e.heap.size 0 (j 0):=pY;have U:al i e.heap.size 1 (j 0):=pY;have ad:dX i e.heap.size:=Bh;have V:e.heap.size<i.heap.size:=fn;go_upto_region 3 with(first|(go_at_call 82;refine(cc _ _ _).mono ?_;rintro r ag ⟨rfl,rfl⟩));go_region;all_goals
    go_wp2_with fail;refine ab (v:=.tuple #[j 0,.agg #[j ai,j d]]) y8 rfl ⟨rfl,f.box e.heap.size ?_ J M,?_⟩
    . exact fH
    . exact io
structure wj where
 w:Nat
 f:Nat
 Yn:Nat
def br (c:P)(b:Q)(a:Nat):wj×P:=
 if(cj c b a).1.2=0 then
  (if(cj c b a).1.1%4=3 then
    (if(cj (cj c b a).2 b ((a+2)%4294967296)).1.2=0 then(⟨(cj c b a).1.1+(cj (cj c b a).2 b ((a+2)%4294967296)).1.1*65536,0,0⟩,(cj (cj c b a).2 b ((a+2)%4294967296)).2)
     else(⟨0,(cj (cj c b a).2 b ((a+2)%4294967296)).1.2,(a+2)%4294967296⟩,(cj (cj c b a).2 b ((a+2)%4294967296)).2))
   else(⟨(cj c b a).1.1,0,0⟩,(cj c b a).2))
 else(⟨0,(cj c b a).1.2,a⟩,(cj c b a).2)
def ha (a:wj):Value:=if a.f=0 then .tuple #[j a.w,.agg #[j (-1),j 0]]else .tuple #[j 0,.agg #[j (a6 a.f 0),j a.Yn]]
def Cm (a:P)(b:Q)(c:Nat):(cj a b c).1.1<65536:=by
 unfold cj nN;repeat' split
 all_goals dsimp only
 . exact tq _ _ 2
 all_goals omega
def mB (a:(Nat×Nat)×P)(d c:Nat)(b:a.1.2=0):fU a d c=.tuple #[j a.1.1,.agg #[j (-1),j 0]]:=by unfold fU;rw[B b]
def tL (a:(Nat×Nat)×P)(c b:Nat)(d:¬a.1.2=0):fU a c b=.tuple #[j 0,.agg #[j (a6 a.1.2 b),j c]]:=by unfold fU;rw[z d]
def aeM (a:Nat):am ((a:Int)+2)=(a+2)%4294967296:=by unfold am;omega
def uc (s t c)(r:af c)(d)(a:Hid (E d s t c)):
 an 131 #[I s] (ha (br c.b (S c) c.V3).1) [t] s t (c.V7 (br c.b (S c) c.V3).2) d:=by
 have ak:=a.out.lt;have ao:=a.out.Ww;have aG:=a.out.Xk;have az:=r.V3;have Q:Hid (E (d.alloc (.cells #[j 0,j 0] 118)) s t c):=b6;have p:=l (fun W Z=>FH s t c r c.V3 az W Z);have P:=nO r.b (S c) c.V3;have ap:=Cm c.b (S c) c.V3;unfold br;have aj:∀i,(c.V7 i).V3=c.V3:=fun _=>rfl;obtain⟨V,J⟩:=y (cj c.b (S c) c.V3);simp only[<-J]at p P ap|-;clear J;obtain⟨⟨h,u⟩,i⟩:=V;have x:=N.okB r P;dsimp only at P ap x|-;by_cases G:u=0
 . subst G;rw[B rfl];simp only[mB ((h,0),i) c.V3 0 rfl]at p;try dsimp only at p
   have K:bits .and .i64 (h:Int) 3=((h%4:Nat):Int):=by rw[BG];simp
   by_cases w:h%4=3
   . rw[B w];rw[w]at K;have aF:bits .and .i64 (h:Int) 3=3:=K;have o:=l (fun W Z=>FH s t (c.V7 i) x ((c.V3+2)%4294967296) m W Z);have av:S (c.V7 i)=S c:=rfl;have aw:(c.V7 i).b=i:=rfl;simp only[av,aw]at o;have ac:=nO P (S c) ((c.V3+2)%4294967296);have ae:=Cm i (S c) ((c.V3+2)%4294967296);have X:Hid (∀W,O 135 #[j ((c.V3:Int)+2)] (j ((c.V3+2)%4294967296:Nat)) W):=l (fun W=>by have:=e0 ((c.V3:Int)+2) W;rw[aeM]at this;exact this);obtain⟨A,am⟩:=y ((c.V3+2)%4294967296);simp only[<-am]at o ac ae X|-;obtain⟨V,J⟩:=y (cj i (S c) A);simp only[<-J]at o ac ae|-;clear J am K;obtain⟨⟨q,f2⟩,M⟩:=V;have ax:(c.V7 i).V7 M=c.V7 M:=rfl;simp only[ax]at o;dsimp only at o ac ae|-;by_cases H:f2=0
     . subst H;rw[B rfl];simp only[mB ((q,0),M) A 0 rfl]at o;rw[show ha ⟨h+q*65536,0,0⟩=.tuple #[j ((h+q*65536:Nat):Int),.agg #[j (-1),j 0]]from rfl];try dsimp only at o|-
       have wr:IntKind.i64.wrap ((q:Int)*65536)=((q*65536:Nat):Int):=dE;have aI:IntKind.i64.wrap ((h:Int)+((q*65536:Nat):Int))=((h+q*65536:Nat):Int):=dE;clear r x a w;go_enter func131,ntmps131;go_wp2_with fail;refine(p.out _ Q).mono ?_;rintro k e ⟨rfl,f,b⟩;have R:al e d.heap.size 0 (j 0):=eU;have T:al e d.heap.size 1 (j 0):=eU;have ai:dX e d.heap.size:=jL;have U:d.heap.size<e.heap.size:=fn;have Y:=f.Xk;have ay:=f.lt;rw[aj]at Y;have ag:Hid (E ((e.alloc (.cells #[j (-1),j 0] 118)).alloc (.cells #[j (-1),j 0] 118)) s t (c.V7 i)):=pZ;go_wp2_with(first|(go_at_call 82;refine(cc _ _ _).mono ?_;rintro k L ⟨rfl,rfl⟩)|(go_at_call 135;refine(X.out _).mono ?_;rintro k g ⟨rfl,rfl⟩));refine(o.out _ ag).mono ?_;rintro k g ⟨rfl,ah,n⟩;have aq:al g d.heap.size 0 (j 0):=lv;have ar:al g d.heap.size 1 (j 0):=lv;have aE:dX g d.heap.size:=uQ;have au:d.heap.size<g.heap.size:=m3;have aA:al g e.heap.size 0 (j (-1)):=lv;have aB:al g e.heap.size 1 (j 0):=lv;have aC:dX g e.heap.size:=uQ;have aD:e.heap.size<g.heap.size:=m3;go_upto_region 7 with(first|(go_at_call 82;refine(cc _ _ _).mono ?_;rintro k L ⟨rfl,rfl⟩));go_region;all_goals
        go_wp2_with fail;refine ab (v:=.tuple #[j ((h+q*65536:Nat):Int),.agg #[j (-1),j 0]]) Gi rfl ⟨rfl,ah.more (G:=[d.heap.size,e.heap.size]) ?_ ad ad,?_⟩
        . exact fH
        . exact vN
     . rw[z H];simp only[tL ((q,f2),M) A 0 H]at o;rw[show ha ⟨0,f2,A⟩=.tuple #[j 0,.agg #[j (a6 f2 0),j A]]by unfold ha;dsimp only;rw[z H]];try dsimp only at o|-
       have aa:=jr f2 0;obtain⟨D,v⟩:=y (a6 f2 0);have C:a6 f2 ((0:Nat):Int)=D:=v.symm;simp only[C]at o;rw[<-v]at aa|-;clear r x a w H v C;go_enter func131,ntmps131;go_wp2_with fail;refine(p.out _ Q).mono ?_;rintro k e ⟨rfl,f,b⟩;have R:al e d.heap.size 0 (j 0):=eU;have T:al e d.heap.size 1 (j 0):=eU;have ai:dX e d.heap.size:=jL;have U:d.heap.size<e.heap.size:=fn;have Y:=f.Xk;have ay:=f.lt;rw[aj]at Y;have ag:Hid (E ((e.alloc (.cells #[j (-1),j 0] 118)).alloc (.cells #[j (-1),j 0] 118)) s t (c.V7 i)):=pZ;go_wp2_with(first|(go_at_call 82;refine(cc _ _ _).mono ?_;rintro k L ⟨rfl,rfl⟩)|(go_at_call 135;refine(X.out _).mono ?_;rintro k g ⟨rfl,rfl⟩));refine(o.out _ ag).mono ?_;rintro k g ⟨rfl,ah,n⟩;have aq:al g d.heap.size 0 (j 0):=lv;have ar:al g d.heap.size 1 (j 0):=lv;have aE:dX g d.heap.size:=uQ;have au:d.heap.size<g.heap.size:=m3;have aA:al g e.heap.size 0 (j (-1)):=lv;have aB:al g e.heap.size 1 (j 0):=lv;have aC:dX g e.heap.size:=uQ;have aD:e.heap.size<g.heap.size:=m3;go_upto_region 6 with(first|(go_at_call 82;refine(cc _ _ _).mono ?_;rintro k L ⟨rfl,rfl⟩));go_region;all_goals
        go_wp2_with fail;refine ab (v:=.tuple #[j 0,.agg #[j D,j A]]) Gi rfl ⟨rfl,ah.more (G:=[d.heap.size,e.heap.size]) ?_ ad ad,?_⟩
        . exact fH
        . exact vN
   . rw[z w];have aH:(bits .and .i64 (h:Int) 3 !=3)=true:=by rw[K];simp;omega
     rw[show ha ⟨h,0,0⟩=.tuple #[j h,.agg #[j (-1),j 0]]from rfl];clear r x a w K;go_enter func131,ntmps131;go_wp2_with fail;refine(p.out _ Q).mono ?_;rintro k e ⟨rfl,f,b⟩;have R:al e d.heap.size 0 (j 0):=eU;have T:al e d.heap.size 1 (j 0):=eU;have ai:dX e d.heap.size:=jL;have U:d.heap.size<e.heap.size:=fn;go_upto_region 3 with(first|(go_at_call 82;refine(cc _ _ _).mono ?_;rintro k L ⟨rfl,rfl⟩));go_region;all_goals
      go_wp2_with fail;refine ab (v:=.tuple #[j h,.agg #[j (-1),j 0]]) Gj rfl ⟨rfl,f.box d.heap.size ?_ ak ao,?_⟩
      . exact fH
      . exact io
 . rw[z G];simp only[tL ((h,u),i) c.V3 0 G]at p;rw[show ha ⟨0,u,c.V3⟩=.tuple #[j 0,.agg #[j (a6 u 0),j c.V3]]by unfold ha;dsimp only;rw[z G]];try dsimp only at p|-
   have aa:=jr u 0;obtain⟨D,v⟩:=y (a6 u 0);have C:a6 u ((0:Nat):Int)=D:=v.symm;simp only[C]at p;rw[<-v]at aa|-;clear r x a G v C;go_enter func131,ntmps131;go_wp2_with fail;refine(p.out _ Q).mono ?_;rintro k e ⟨rfl,f,b⟩;have R:al e d.heap.size 0 (j 0):=eU;have T:al e d.heap.size 1 (j 0):=eU;have ai:dX e d.heap.size:=jL;have U:d.heap.size<e.heap.size:=fn;go_upto_region 3 with(first|(go_at_call 82;refine(cc _ _ _).mono ?_;rintro k L ⟨rfl,rfl⟩));go_region;all_goals
    go_wp2_with fail;refine ab (v:=.tuple #[j 0,.agg #[j D,j c.V3]]) Gj rfl ⟨rfl,f.box d.heap.size ?_ ak ao,?_⟩
    . exact fH
    . exact io
def qG (b:Nat)(a:(Nat×Nat)×P):(Nat×Nat)×P:=if a.1.2=0 then(if bD (a.1.1:Nat) (b:Nat) a.2.o.length=true then a else((0,2),a.2))else((0,a.1.2),a.2)
def hm (a:P)(b:Q)(e d c:Nat):(Nat×Nat)×P:=qG d (a2 a b e c)
def j4 (a:(Nat×Nat)×P)(d c b:Nat):Value:=if a.1.2=0 then .tuple #[.agg #[j a.1.1,j c],.agg #[j (-1),j 0]]else .tuple #[.agg #[j 0,j 0],.agg #[j (a6 a.1.2 b),j d]]
def es (a b:Int):Bool:=decide (b=4/\(a=33554432\/a=33570816\/a=33570820\/a=33603576\/a=33603580))
def e4 (a b:Int):Bool:=decide (b=1/\(a=268435456\/a=268435457\/a=268435458\/a=268435461\/a=268435463))
theorem qS (a b:Int)(c:Nat):bD a b c=(aZ a b c ||es a b ||e4 a b):=by
 unfold bD;cases aZ a b c
 . simp only[uH];rw[z (by simp)];have f:es a b=(decide (b=4)&&eK a):=by unfold es eK;simp
   have g:e4 a b=(decide (b=1)&&ep a):=by unfold e4 ep;simp
   rw[f,g];cases e:eK a with
   |true=>
    have d:ep a=false:=by unfold eK at e;unfold ep;simp at e|-;omega
    rw[d];simp
   |false=>cases d:ep a<;>simp
 . simp
def UI {a:P}(e:aS a)(b:Q)(d f c:Nat):aS (hm a b d f c).2:=by
 have:=fz e b d c;unfold hm qG;exact Af
def yt (p q h)(u:af h)(i e d:Nat)(ae:G i)(aA:1<=e)(aB:e<=4)(ar:d=0\/d=1\/d=2)(a)(c:Hid (E a p q h)):
 an 339 #[I p,j i,j e,j d] (j4 (hm h.b (S h) i e d) i e d) [q] p q (h.V7 (hm h.b (S h) i e d).2) a:=by
 have az:=c.out.lt;have aC:=c.out.Ww;have Y:Hid (E ((a.alloc (.cells #[j 0,j 0] 231)).alloc (.cells #[j 0,j 0] 118)) p q h):=cB;have o:=l (fun W D=>mI p q h u i d ae ar W D);have w:=fz u.b (S h) i d;have aa:=(fV h.b (S h) i d ae).1;unfold hm;obtain⟨ak,K⟩:=y (a2 h.b (S h) i d);simp only[<-K]at o;rw[<-K]at w aa|-;clear K;obtain⟨⟨k,s⟩,n⟩:=ak;have M:=N.okB u w;have ac:=w.o;dsimp only at o w aa M ac|-;unfold qG;dsimp only;by_cases t:s=0
 . subst t;rw[B rfl];simp only[mB ((k,0),n) i d rfl]at o;have x:∀W,Hid (E W p q (h.V7 n))->O 261 #[I p,j k,j e] (.bool (aZ k e n.o.length)) W:=fun W D=>ow p q (h.V7 n) ac k e m m m m W D;have C:∀W,O 340 #[j k,j e] (.bool (es k e)) W:=fun W=>uf k e m m W;have A:∀W,O 342 #[j k,j e] (.bool (e4 k e)) W:=fun W=>yq k e m m W;have ag:Hid (∀W,O 274 #[j 2,j d] (j (a6 2 d)) W):=l (fun W=>ub 2 d W);rw[qS];obtain⟨am,H⟩:=y (aZ k e n.o.length);obtain⟨ap,L⟩:=y (es k e);obtain⟨ao,J⟩:=y (e4 k e);simp only[<-H]at x;simp only[<-L]at C;simp only[<-J]at A;rw[<-H,<-L,<-J];have ah:=l x;have aj:=l C;have ai:=l A;try dsimp only at o
   clear x C A H L J u M c;cases am;case true=>
    exact Ak
   cases ap;case true=>
    exact Ak
   cases ao;case true=>
    exact Ak
   rw[z (by simp)];rw[show j4 ((0,2),n) i e d=.tuple #[.agg #[j 0,j 0],.agg #[j (a6 2 d),j i]]from rfl];go_enter func339,ntmps339;go_wp2_with fail;refine(o.out _ Y).mono ?_;rintro r g ⟨rfl,f,b⟩;have Q:al g a.heap.size 0 (j 0):=eU;have R:al g a.heap.size 1 (j 0):=eU;have aw:dX g a.heap.size:=jL;have T:a.heap.size<g.heap.size:=fn;have U:al g (a.heap.size+1) 0 (j 0):=eU;have V:al g (a.heap.size+1) 1 (j 0):=eU;have ax:dX g (a.heap.size+1):=jL;have X:a.heap.size+1<g.heap.size:=fn;have av:Hid (E ((g.alloc (.cells #[j (-1),j 0] 118)).alloc (.cells #[j (-1),j 0] 118)) p q (h.V7 n)):=pZ;go_wp2_with(first|(go_at_call 82;refine(cc _ _ _).mono ?_;rintro r ay ⟨rfl,rfl⟩)|(go_at_call 261;refine(ah.out _ av).mono ?_;rintro r P ⟨rfl,rfl⟩)|(go_at_call 340;refine(aj.out _).mono ?_;rintro r P ⟨rfl,rfl⟩)|(go_at_call 342;refine(ai.out _).mono ?_;rintro r P ⟨rfl,rfl⟩)|(go_at_call 274;refine(ag.out _).mono ?_;rintro r P ⟨rfl,rfl⟩));refine ab (v:=.tuple #[.agg #[j 0,j 0],.agg #[j (a6 2 d),j i]]) y9 rfl ⟨rfl,f.more (G:=[a.heap.size,a.heap.size+1]) ?_ ad ad,?_⟩
   . exact fH
   . exact io
 . rw[z t];simp only[tL ((k,s),n) i d t]at o;rw[show j4 ((0,s),n) i e d=.tuple #[.agg #[j 0,j 0],.agg #[j (a6 s d),j i]]by unfold j4;dsimp only;rw[z t]];try dsimp only at o
   have au:=jr s d;obtain⟨aq,Z⟩:=y (a6 s d);simp only[<-Z]at o au|-;clear t u c M Z;go_enter func339,ntmps339;go_wp2_with fail;refine(o.out _ Y).mono ?_;rintro r g ⟨rfl,f,b⟩;have Q:al g a.heap.size 0 (j 0):=eU;have R:al g a.heap.size 1 (j 0):=eU;have aw:dX g a.heap.size:=jL;have T:a.heap.size<g.heap.size:=fn;have U:al g (a.heap.size+1) 0 (j 0):=eU;have V:al g (a.heap.size+1) 1 (j 0):=eU;have ax:dX g (a.heap.size+1):=jL;have X:a.heap.size+1<g.heap.size:=fn;go_upto_region 3 with(first|(go_at_call 82;refine(cc _ _ _).mono ?_;rintro r ay ⟨rfl,rfl⟩));go_region;all_goals
    go_wp2_with fail;refine ab (v:=.tuple #[.agg #[j 0,j 0],.agg #[j aq,j i]]) y9 rfl ⟨rfl,f.more (G:=[a.heap.size,a.heap.size+1]) ?_ ad ad,?_⟩
    . exact fH
    . exact io
end
end Go.Proofs.YtmlgonbhoknoiabGreatDoor
