import Derived.Test.YtmlgonbhoknoiaaGreatDoorJAG
import Derived.Test.YtmlgonbhoknoiaaGreatDoorJAI
set_option maxHeartbeats 8000000
set_option maxRecDepth 100000
set_option linter.all false
namespace Go.Proofs.YtmlgonbhoknoiaaGreatDoor
open Go.RowKit Go.Proofs.Tryz
def jm (B:P)(a:Nat):P:={B with time:=(B.time+a)%4294967296,Wh:=(B.Wh+(B.time+a)/4294967296)%4294967296}
def acR (c:Nat)(a:Int)(f:a<0\/4294967295<a)(e:D):
 O 238 #[I c,j a] (j 2) e:=by
 by_cases b:a<0
 . have d:decide (a<0)=true:=kl;exact IW
 . have d:decide (a<0)=false:=M;have g:decide (4294967295<a)=true:=M;exact IW
def acQ (d s:Nat)(a:P)(i:aT a)(b:Nat)(z:b<=4294967295)(g:D)(e:Hid (ap g d s a)):
 Calls prog 238 #[I d,j b] g fun w h=>w=.returned (j 0)/\ap h d s (jm a b)/\Kept [d] g h:=by
 have u:=i.time;have v:=i.Wh;have c2:=e.out.c2;have c3:=e.out.c3;have x:=e.out.Wb;have A:decide ((b:Int)<0)=false:=bN;have B:decide (4294967295< (b:Int))=false:=M;have c:=(e.out.YO ((a.time+b)%4294967296)).YP ((a.Wh+(a.time+b)/4294967296)%4294967296);have q:((a.time:Int)+b).tmod 4294967296=(((a.time+b)%4294967296:Nat):Int):=fc;have d1:((a.time:Int)+b).tdiv 4294967296=(((a.time+b)/4294967296:Nat):Int):=kg;have hd:(a.time+b)/4294967296<=4:=J;unfold jm;obtain⟨f,k⟩:=y ((a.time+b)/4294967296);rw[<-k]at d1 hd c|-;have r:((a.Wh:Int)+f).tmod 4294967296=(((a.Wh+f)%4294967296:Nat):Int):=fc;obtain⟨G,o⟩:=y ((a.time+b)%4294967296);obtain⟨H,p⟩:=y ((a.Wh+f)%4294967296);rw[<-o]at q c|-;rw[<-p]at r c|-;have t:=l c;obtain⟨C,m⟩:=y (a.time);obtain⟨E,n⟩:=y (a.Wh);rw[<-m]at u c2 q d1;rw[<-n]at v c3 r;clear k o p c m n;go_enter func238,ntmps238;go_wp2_with fail;go_ret;exact⟨rfl,t.out,((Kept.refl _ _).setCell (.inl F) _).setCell (.inl F) _⟩
def acn (a f:Nat)(b:P)(d:D)(c:Hid (ap d a f b)):
 Calls prog 240 #[I a] d fun g e=>g=.returned (.string b.Wc)/\ap e a f {b with Wc:=⟨#[]⟩}/\Kept [a] d e:=by
 have h:=c.out.Xt;have i:=c.out.Wb;have E:=l (c.out.YS ⟨#[]⟩);go_enter func240,ntmps240;exact IX
def pW (a:P):P:={o:=a.o,Wj:=0,time:=0,Wh:=0,cmp:=4294967295,Wv:=4294967295,enable:=0,Wr:=0,lost:=false,rx:=⟨#[]⟩,Wc:=⟨#[]⟩}
def EI (a f:Nat)(e:P)(c:D)(i:Hid (ap c a f e)):
 Calls prog 241 #[I a] c fun h d=>h=.returned (.tuple #[])/\ap d a f (pW e)/\Kept [a] c d:=by
 have b:=i.out;have g:=l ((((((((((b.Zb 0).YO 0).YP 0).Yz 4294967295).Zc 4294967295).Zd 0).Ze 0).YQ false).YR ⟨#[]⟩).YS ⟨#[]⟩);obtain⟨-,c1,c2,c3,c4,c5,k,m,n,o,j,p,-,-,-,-,-⟩:=id b;clear b;go_enter func241,ntmps241;go_wp2_with fail;go_end0;refine⟨rfl,g.out,?_⟩;exact pt
def BC (a:Nat):P:={o:=List.replicate a 0,Wj:=0,time:=0,Wh:=0,cmp:=4294967295,Wv:=4294967295,enable:=0,Wr:=0,lost:=false,rx:=⟨#[]⟩,Wc:=⟨#[]⟩}
def ac0 (a:Nat)(N:a<=65536)(W:D):
 Calls prog 232 #[j a] W fun s h=>(∃p v,s=.returned (.tuple #[I p,j 0])/\W.heap.size<=p/\W.heap.size<=v/\ap h p v (BC a))/\Below W.heap.size W h:=by
 obtain⟨J,B,H,e,k⟩:=hy Tryz.Yu;have K:decide ((a:Int)<0)=false:=bN;have L:decide (65536< (a:Int))=false:=M;have E:∀i,(Instr.makeSlice 64 (.int .i64 (a:Int)) (.int .i64 (a:Int))).run prog i=.ok (.slice (some ⟨i.heap.size,0,none⟩) a a) (i.alloc (.cells (madeCells #[.int .u8 0] a) 5)):=by
  intro i;have t:=uh (P:=prog) i 64 5 J (.int .u8 0) gQ B H .i64 .i64 a a m (ju _) uv uw m;rw[e]at t;simpa[Value.cells]using t
 obtain⟨d,n⟩:=y (Obj.cells (madeCells #[.int .u8 0] a) 5);have u:ap ((W.alloc d).alloc (nx (some ⟨W.heap.size,0,none⟩) a a)) (W.heap.size+1) W.heap.size {o:=List.replicate a 0,Wj:=0,time:=0,Wh:=0,cmp:=0,Wv:=0,enable:=0,Wr:=0,lost:=false,rx:=⟨#[]⟩,Wc:=⟨#[]⟩}:=by
  have G:∀f,f<a->(W.alloc d).cell? ⟨W.heap.size,f,none⟩=some (.int .u8 0):=by
   intro f g;rw[n];simp[madeCells,g,q3]
  have x:∀b,(W.alloc d).frozen? ⟨W.heap.size,b,none⟩=false:=by intro b;rw[n];simp
  have o:Below (W.alloc d).heap.size (W.alloc d) ((W.alloc d).alloc (nx (some ⟨W.heap.size,0,none⟩) a a)):=lT;refine⟨?_,?_,?_,?_,?_,?_,?_,?_,?_,?_,?_,?_,?_,fun f g=>?_,fun b=>?_,?_,?_⟩;case refine_14=>
   have z:f<a:=pB;rw[o.cell (p:=⟨W.heap.size,f,none⟩) (by simp),G f z];simp
  case refine_15=>exact I3
  case refine_16=>simp;omega
  case refine_17=>omega
  all_goals (unfold nx;simp)
 have r:=l (EI (W.heap.size+1) W.heap.size _ _ (l u));have c:Hid (Below W.heap.size W ((W.alloc d).alloc (nx (some ⟨W.heap.size,0,none⟩) a a))):=l (((aq _ _).alloc (aB _) _).alloc F _);have q:Hid (∀h,Kept [W.heap.size+1] ((W.alloc d).alloc (nx (some ⟨W.heap.size,0,none⟩) a a)) h->Below W.heap.size W h):=J5;rw[<-n]at E;unfold nx at r q;clear u c n;go_enter func232,ntmps232;go_wp2_with fail;refine r.out.mono ?_;rintro s O ⟨rfl,A,C⟩;go_wp2_with fail;go_ret2;exact⟨⟨_,_,rfl,by omega,aB _,A⟩,q.out _ C⟩
def aew (b d e h g:Nat)(a:ai)(c:D)(f:Hid (V c b d e h g a)):
 O 172 #[I b] (j a.V3) c:=by
 have c3:=f.out.c3;go_enter func172,ntmps172;exact cn
def aet (c e f h g:Nat)(a:ai)(d:D)(b:Hid (V d c e f h g a)):
 O 173 #[I c] (j a.f.mode) d:=by
 have c1:=b.out.c1;have d1:=b.out.WW.c1;go_enter func173,ntmps173;exact cn
def aeD (e c h i f:Nat)(a:ai)(b:D)(d:Hid (V b e c h i f a)):
 O 174 #[I e] (j a.b.o.length) b:=by
 have k:=d.out.V8;have g:=l (ac5 c f a.b b (l d.out.Wt));go_enter func174,ntmps174;go_wp2_with fail;refine g.out.mono ?_;exact ex
def aeA (a:Nat)(i:Int)(e:i<0\/31<i)(d:D):
 O 169 #[I a,j i] (.tuple #[j 0,j 2]) d:=by
 by_cases b:i<0
 . have c:decide (i<0)=true:=kl;exact zG
 . have c:decide (i<0)=false:=M;have f:decide (31<i)=true:=M;exact zG
def V.Zw {k:D}{c o p f s:Nat}{h:ai}(a:V k c o p f s h)(d:Nat)(hd:d<32)(n:Nat):V (k.setCell ⟨f,d,none⟩ (j (n:Int))) c o p f s {h with x:=h.x.set d n}:=by
 have q:=a.nodup;simp only[gS,dD,eR,eS,gi,iR,gg]at q;obtain⟨⟨C,E,A,G⟩,⟨H,y,I⟩,⟨z,J⟩,x,_⟩:=q;have b:Kept [f] k (k.setCell ⟨f,d,none⟩ (j (n:Int))):=vw;have v:=a.XD;have w:=a.X7;have B:=a.cr d m;refine⟨(b.cell (p:=⟨c,0,none⟩) a.lt m0).trans a.V8,(b.cell (p:=⟨c,1,none⟩) a.lt m0).trans a.c1,(b.cell (p:=⟨c,2,none⟩) a.lt m0).trans a.c2,(b.cell (p:=⟨c,3,none⟩) a.lt m0).trans a.c3,(b.cell (p:=⟨c,4,none⟩) a.lt m0).trans a.c4,(b.cell (p:=⟨c,5,none⟩) a.lt m0).trans a.c5,fun l=>(b.frozen (p:=⟨c,l,none⟩) a.lt m0).trans (a.Wb l),aR a.lt b.size,a.Wt.more b (by simp[y]) (by simp;exact fun e=>x e.symm),a.WW.more b (by simp[z]),by simp[v],fun i g=>?_,fun l=>?_,aR a.Xc b.size,a.nodup⟩
 . have u:i<h.x.length:=pB;have r:=a.cr i u;by_cases e:i=d
   . subst e;simp[go_sem,r]
   . have t:¬d=i:=fun a=>e a.symm;simp[go_sem,r,e,t,mS]
 . simp[go_sem,w]
def dW (a:ai)(b:Nat)(c:Int):ai:=if b=0 then a else{a with x:=a.x.set b (am c)}
def qN (e n p g r:Nat)(k:ai)(c:Nat)(hd:c<32)(d:Int)(f:D)(a:Hid (V f e n p g r k)):
 Calls prog 393 #[I e,j c,j d] f fun o h=>o=.returned (.tuple #[])/\V h e n p g r (dW k c d)/\Kept [g] f h:=by
 unfold dW;by_cases b:c=0
 . rw[B b];have s:((c:Int) !=0)=false:=g0;clear b;go_enter func393,ntmps393;exact vl
 . rw[z b];have s:((c:Int) !=0)=true:=M;have i:=l (fX d);have m:=l ((a.out.more (Below.kept (aq _ _).drew []) F F F F F).Zw c hd (am d));have c2:=a.out.c2;have t:=a.out.cr c (by rw[a.out.XD];exact hd);have w:=a.out.X7 c;obtain⟨v,q⟩:=y (am d);rw[<-q]at i m|-;clear q b;go_enter func393,ntmps393;go_upto_region 1 with fail;go_region_with(go_at_call 366;refine(i.out _).mono ?_;rintro o u ⟨rfl,rfl⟩);all_goals (go_wp2_with fail;go_end0;exact⟨rfl,m.out,(Kept.refl _ _).drew.setCell (.inl F) _⟩)
def je (a:Nat):Nat:=if a=0 then 11 else if a=1 then 3 else if a=2 then 7 else if a=3 then 9 else if a=4 then 1 else 5
def aej (a:Nat)(d:a<6)(c:D):
 O 389 #[j a] (j (je a)) c:=by
 have b:a=0\/a=1\/a=2\/a=3\/a=4\/a=5:=J;rcases b with rfl|rfl|rfl|rfl|rfl|rfl;all_goals
  go_enter func389,ntmps389;exact cn
def CQ (a:Nat):je a<=11:=by unfold je;repeat(first|omega|split)
def mf (b:Nat):Nat->Nat->Int
 |0,_=> -1
 |c+1,a=>if b/2^je a%2=1 then(je a:Int)else mf b c (a+1)
def jQ (a:Nat):Int:=mf a 6 0
def EL (b:Nat)(x:G b)(C:D):
 O 361 #[j b] (j (jQ b)) C:=by
 obtain⟨d,n⟩:=y (jQ b);rw[<-n];have c:Hid (d=mf b (6-0) 0):=n;clear n;go_enter func361,ntmps361;go_wp2_with fail;go_loop [3] (fun k=>∃a:Nat,a<=6/\k=j a/\Hid (d=mf b (6-a) a)) (fun k=>6- (intOf k).toNat);case atStart=>exact vg
 case round=>
  obtain⟨a,F,rfl,h⟩:=hrel;clear c;by_cases v:a<6
  . have p:=l (aej a v);have g:=l (e7 b (je a) x (by have:=CQ a;omega));have e:Hid (d=if b/2^je a%2=1 then(je a:Int)else mf b (6- (a+1)) (a+1)):=by
     show d=_;rw[h.out,show 6-a=(6- (a+1))+1 by omega];rfl
    have w:=CQ a;obtain⟨t,s⟩:=y (je a);rw[<-s]at p g e w;obtain⟨i,r⟩:=y (b/2^t%2);rw[<-r]at g e;clear h s r;by_cases f:i=1
    . have A:((i:Int)==1)=true:=M;have o:Hid (d=(t:Int)):=by show d=_;rw[e.out,B f]
      clear e f;go_wp2_with fail;refine(p.out _).mono ?_;rintro m q ⟨rfl,rfl⟩;go_wp2_with fail;refine(g.out _).mono ?_;rintro m q ⟨rfl,rfl⟩;go_wp2_with fail;go_ret;exact⟨by rw[o.out]<;>rfl,rfl⟩
    . have A:((i:Int)==1)=false:=M;have o:Hid (d=mf b (6- (a+1)) (a+1)):=by show d=_;rw[e.out,z f]
      clear e f;go_wp2_with fail;refine(p.out _).mono ?_;rintro m q ⟨rfl,rfl⟩;go_wp2_with fail;refine(g.out _).mono ?_;rintro m q ⟨rfl,rfl⟩;go_wp2_with fail;go_round;case rel=>exact⟨a+1,by omega,by go_num,o⟩
      case measure=>exact a5
  . have E:decide ((a:Int)<6)=false:=M;have u:Hid (d=-1):=by show d=_;rw[h.out,show 6-a=0 by omega];rfl
    clear h;go_wp2_with fail;go_ret;exact⟨by rw[u.out]<;>rfl,rfl⟩
def kK (a:Nat)(b:Int)(c:Bool):Nat:=if c=true then(if decide (a%2=1)=true then am ((a:Int)-a%4+4*b)else a-a%4)else a-a%4
def EK (a:Nat)(x:G a)(b:Int)(v:-1<=b)(w:b<=100)(d:Bool)(e:D):
 O 362 #[j a,j b,.bool d] (j (kK a b d)) e:=by
 unfold kK;have s:(a:Int).tmod 4=((a%4:Nat):Int):=iy a 4;have r:=jY a;have n:=i9 (a%2);have p:a%4<=a:=Nat.mod_le _ _;have q:a%4<4:=J;have g:=l (fX ((a:Int)- ((a%4:Nat):Int)+4*b));have c:Hid (∀e,O 366 #[j ((a:Int)- ((a%4:Nat):Int)+4*b)] (j (am ((a:Int)-a%4+4*b))) e):=g;obtain⟨o,i⟩:=y (decide (a%2=1));rw[<-i]at n|-;obtain⟨u,h⟩:=y (am ((a:Int)-a%4+4*b));rw[<-h]at c|-;obtain⟨f,k⟩:=y (a%4);rw[<-k]at s p q c|-;obtain⟨z,m⟩:=y (a%2);rw[<-m]at r n;have t:Hid (((a-f:Nat):Int)=(a:Int)-f):=ie;clear i h k m g;cases d<;>cases o
 . exact zH
 . exact zH
 . exact zH
 . go_enter func362,ntmps362;go_wp2_with fail;refine(c.out _).mono ?_;exact ex
structure N8 (c a b e d:Nat):Prop where
 Zx:c≠a
 Zy:c≠b
 ZW:c≠e
 Zz:c≠d
 Zf:a≠b
 ZA:a≠e
 ZX:a≠d
 ax:b≠e
 Zg:b≠d
 ZB:e≠d
def V.Zh {s:D}{d a b f e:Nat}{g:ai}(h:V s d a b f e g):N8 d a b f e:=by
 have c:=h.nodup;simp only[gS,dD,eR,eS,gi,iR,gg]at c;obtain⟨⟨i,k,l,m⟩,⟨n,o,p⟩,⟨q,r⟩,j,_⟩:=c;exact⟨i,k,l,m,n,o,p,q,r,j⟩
def V.Xy {q j:D}{c d l i f:Nat}{n:ai}{m:P}(a:V q c d l i f n)(b:Kept [d,f] q j)(r:ap j d f m):V j c d l i f {n with b:=m}:=by
 have g:=a.Zh;have e:c∉ [d,f]:=by simp;exact⟨g.Zx,g.Zz⟩
 have t:l∉ [d,f]:=by simp;exact⟨fun k=>g.Zf k.symm,g.Zg⟩
 have p:i∉ [d,f]:=by simp;exact⟨fun k=>g.ZA k.symm,g.ZB⟩
 exact⟨(b.cell (p:=⟨c,0,none⟩) a.lt e).trans a.V8,(b.cell (p:=⟨c,1,none⟩) a.lt e).trans a.c1,(b.cell (p:=⟨c,2,none⟩) a.lt e).trans a.c2,(b.cell (p:=⟨c,3,none⟩) a.lt e).trans a.c3,(b.cell (p:=⟨c,4,none⟩) a.lt e).trans a.c4,(b.cell (p:=⟨c,5,none⟩) a.lt e).trans a.c5,fun h=>(b.frozen (p:=⟨c,h,none⟩) a.lt e).trans (a.Wb h),aR a.lt b.size,r,a.WW.more b t,a.XD,fun o s=>(b.cell (p:=⟨i,o,none⟩) a.Xc p).trans (a.cr o s),fun h=>(b.frozen (p:=⟨i,h,none⟩) a.Xc p).trans (a.X7 h),aR a.Xc b.size,a.nodup⟩
def V.XE {q j:D}{c h d g l:Nat}{n:ai}{m:Q}(a:V q c h d g l n)(b:Kept [d] q j)(r:T j d h m):V j c h d g l {n with f:=m}:=by
 have i:=a.Zh;have e:c∉ [d]:=by simp;exact i.Zy
 have t:h∉ [d]:=by simp;exact i.Zf
 have p:g∉ [d]:=by simp;exact fun k=>i.ax k.symm
 have u:l∉ [d]:=by simp;exact fun k=>i.Zg k.symm
 exact⟨(b.cell (p:=⟨c,0,none⟩) a.lt e).trans a.V8,(b.cell (p:=⟨c,1,none⟩) a.lt e).trans a.c1,(b.cell (p:=⟨c,2,none⟩) a.lt e).trans a.c2,(b.cell (p:=⟨c,3,none⟩) a.lt e).trans a.c3,(b.cell (p:=⟨c,4,none⟩) a.lt e).trans a.c4,(b.cell (p:=⟨c,5,none⟩) a.lt e).trans a.c5,fun f=>(b.frozen (p:=⟨c,f,none⟩) a.lt e).trans (a.Wb f),aR a.lt b.size,a.Wt.more b t u,r,a.XD,fun o s=>(b.cell (p:=⟨g,o,none⟩) a.Xc p).trans (a.cr o s),fun f=>(b.frozen (p:=⟨g,f,none⟩) a.Xc p).trans (a.X7 f),aR a.Xc b.size,a.nodup⟩
def aeo (f c i j d:Nat)(a:ai)(e:D)(b:Hid (V e f c i j d a)):
 Calls prog 164 #[I f] e fun k g=>k=.returned (.string a.b.Wc)/\V g f c i j d {a with b:={a.b with Wc:=⟨#[]⟩}}/\Kept [c,d] e g:=by
 have m:=b.out.V8;have n:=l (acn c d a.b e (l b.out.Wt));go_enter func164,ntmps164;exact Jb
def aeE (g c k m e:Nat)(a:ai)(r:aT a.b)(d:Nat)(p:d<=4294967295)(f:D)(b:Hid (V f g c k m e a)):
 Calls prog 162 #[I g,j d] f fun o i=>o=.returned (j 0)/\V i g c k m e {a with b:=jm a.b d}/\Kept [c,e] f i:=by
 have s:=b.out.V8;have n:=l (acQ c e a.b r d p f (l b.out.Wt));go_enter func162,ntmps162;exact Jb
def aep (g d n p e:Nat)(c:ai)(t:c.b.rx.size<=4)(a:K)(s:a.size<=64)(f:D)(b:Hid (V f g d n p e c)):
 Calls prog 163 #[I g,.string a] f fun m i=>m=.returned (.tuple #[j (eo a a.size 0 0 c.b).1,j 0])/\V i g d n p e {c with b:=(eo a a.size 0 0 c.b).2}/\Kept [d,e] f i:=by
 have v:=b.out.V8;have k:=l (acp d e c.b t a s f (l b.out.Wt));obtain⟨r,o⟩:=y (eo a a.size 0 0 c.b);rw[<-o]at k|-;clear o;obtain⟨w,u⟩:=r;go_enter func163,ntmps163;go_wp2_with fail;refine k.out.mono ?_;rintro m x ⟨rfl,q,h⟩;go_wp2_with fail;go_ret2;exact Jc
def Fx (a:Int)(h:28<=a)(i:a<=37)(b c:Nat)(e:G b)(f:G c)(d:D):
 O 265 #[j a,j b,j c] (j (cp a b c)) d:=by
 have g:a=28\/a=29\/a=30\/a=31\/a=32\/a=33\/a=34\/a=35\/a=36\/a=37:=J;rcases g with rfl|rfl|rfl|rfl|rfl|rfl|rfl|rfl|rfl|rfl
 . exact air b c e f d
 . exact aiz b c e f d
 . exact aiu b c e f d
 . exact aiv b c e f d
 . exact aiw b c e f d
 . exact aiA b c e f d
 . exact aiy b c e f d
 . exact aix b c e f d
 . exact ait b c e f d
 . exact ais b c e f d
def ahn (a:Int)(h:42<=a)(i:a<=49)(b c:Nat)(e:G b)(f:G c)(d:D):
 O 267 #[j a,j b,j c] (j (cp a b c)) d:=by
 have g:a=42\/a=43\/a=44\/a=45\/a=46\/a=47\/a=48\/a=49:=J;rcases g with rfl|rfl|rfl|rfl|rfl|rfl|rfl|rfl
 . exact ahq b c e f d
 . exact ahr b c e f d
 . exact ahs b c e f d
 . exact aht b c e f d
 . exact aho b c e f d
 . exact ahp b c e f d
 . exact ahu b c e f d
 . exact ahv b c e f d
def OX (a:Int)(e:19<=a)(f:a<=27)(b c:Nat):cp (ll a) b c=cp a b c/\28<=ll a/\ll a<=37:=by
 have d:a=19\/a=20\/a=21\/a=22\/a=23\/a=24\/a=25\/a=26\/a=27:=J;rcases d with rfl|rfl|rfl|rfl|rfl|rfl|rfl|rfl|rfl<;>exact⟨rfl,by decide,by decide⟩
def ef (a:Int):Int:=if a=11\/a=14\/a=16 then 1 else if a=12\/a=15\/a=17 then 2 else 4
def agd (b:Int)(d:D):
 O 269 #[j b] (j (ef b)) d:=by
 obtain⟨e,a⟩:=y (ef b);rw[<-a];unfold ef at a;have c:=l a;clear a;go_enter func269,ntmps269;exact pw
def qW (a:Int):Int:=if a=50 then 1 else 2
def agr (b:Int)(d:D):
 O 273 #[j b] (j (qW b)) d:=by
 obtain⟨e,a⟩:=y (qW b);rw[<-a];unfold qW at a;have c:=l a;clear a;go_enter func273,ntmps273;exact pw
def h1 (a:Int):Int:=if a=1 then 4 else 6
def agn (b:Int)(d:D):
 O 274 #[j b] (j (h1 b)) d:=by
 obtain⟨e,a⟩:=y (h1 b);rw[<-a];unfold h1 at a;have c:=l a;clear a;go_enter func274,ntmps274;exact pw
def a7 (a b:Int):Int:=if b=0 then(if a=1 then 12 else 1)else if b=1 then(if a=1 then 13 else 5)else(if a=1 then 15 else 7)
def tF (a c:Int)(f:D):
 O 275 #[j a,j c] (j (a7 a c)) f:=by
 obtain⟨h,b⟩:=y (a7 a c);rw[<-b];unfold a7 at b;have d:=l b;clear b;go_enter func275,ntmps275;go_wp2_with(go_at_call 348;refine(Fg _ _ _ _).mono ?_;rintro i g ⟨rfl,rfl⟩);all_goals (go_ret;refine⟨eM ?_,rfl⟩;rw[d.out];simp_all<;>try(by_cases e:a=1<;>simp[e]))
def tJ (a d:Int)(g:-1099511627776<=a)(h:a<=1099511627776)(e:D):
 O 341 #[j a,j d] (.bool (decide (d=4/\(a=33554432\/a=33570816\/a=33570820\/a=33603576\/a=33603580)))) e:=by
 obtain⟨f,b⟩:=y (decide (d=4/\(a=33554432\/a=33570816\/a=33570820\/a=33603576\/a=33603580)));rw[<-b];have c:=l b;clear b;go_enter func341,ntmps341;exact rY
def x4 (a d:Int)(g:-1099511627776<=a)(h:a<=1099511627776)(e:D):
 O 343 #[j a,j d] (.bool (decide (d=1/\(a=268435456\/a=268435457\/a=268435458\/a=268435461\/a=268435463)))) e:=by
 obtain⟨f,b⟩:=y (decide (d=1/\(a=268435456\/a=268435457\/a=268435458\/a=268435461\/a=268435463)));rw[<-b];have c:=l b;clear b;go_enter func343,ntmps343;exact rY
def x5 (a:Nat)(c:G a)(b:D):
 O 336 #[j a] (j ((a/1024*4096:Nat):Int)) b:=by
 go_enter func336,ntmps336;go_wp2_with fail;go_ret;exact⟨eM F,rfl⟩
def fD (a:Int)(d:D):
 O 193 #[j a] (.bool (decide (5<=a/\a<=10))) d:=by
 obtain⟨e,b⟩:=y (decide (5<=a/\a<=10));rw[<-b];have c:=l b;clear b;go_enter func193,ntmps193;exact rY
def bv (a:Int):Bool:=decide ((1<=a/\a<=4)\/(19<=a/\a<=37)\/(42<=a/\a<=49))
def gL (b:Int)(d:D):
 O 196 #[j b] (.bool (bv b)) d:=by
 obtain⟨e,a⟩:=y (bv b);rw[<-a];unfold bv at a;have c:=l a;clear a;go_enter func196,ntmps196;exact rY
def qX (a:Int):Int:=if a=68 then 4194304 else if a=69 then 2097152 else 1048576
def ag1 (b:Int)(d:D):
 O 282 #[j b] (j (qX b)) d:=by
 obtain⟨e,a⟩:=y (qX b);rw[<-a];unfold qX at a;have c:=l a;clear a;go_enter func282,ntmps282;exact pw
def ev (a:Int)(c b:Nat):Nat:=if a=62\/a=65 then c |||b else if a=63\/a=66 then aI c b else b
def tD (e:Int)(b a:Nat)(h:G b)(i:G a)(f:D):
 O 281 #[j e,j b,j a] (j (ev e b a)) f:=by
 obtain⟨g,d⟩:=y (ev e b a);rw[<-d];unfold ev at d;have c:=l d;clear d;have k:=g8 b a m m;have n:=gs b a m m;go_enter func281,ntmps281;exact pw
def eg (a:Nat):Int:=if cu a 11 then 11 else if cu a 3 then 3 else if cu a 7 then 7 else if cu a 9 then 9 else if cu a 1 then 1 else if cu a 5 then 5 else -1
def Fs (a:Nat)(B:G a)(d:D):
 O 128 #[j a] (j (eg a)) d:=by
 have f:∀k:Nat,Hid (O 188 #[j a,j k] (.bool (cu a k)) d):=fun k=>l (tH a k B d);have e:Hid (O 188 #[j a,j 11] (.bool (cu a 11)) d):=f 11;have g:Hid (O 188 #[j a,j 3] (.bool (cu a 3)) d):=f 3;have h:Hid (O 188 #[j a,j 7] (.bool (cu a 7)) d):=f 7;have i:Hid (O 188 #[j a,j 9] (.bool (cu a 9)) d):=f 9;have m:Hid (O 188 #[j a,j 1] (.bool (cu a 1)) d):=f 1;have n:Hid (O 188 #[j a,j 5] (.bool (cu a 5)) d):=f 5;unfold eg;obtain⟨v,p⟩:=y (cu a 11);obtain⟨w,q⟩:=y (cu a 3);obtain⟨z,s⟩:=y (cu a 7);obtain⟨A,t⟩:=y (cu a 9);obtain⟨u,o⟩:=y (cu a 1);obtain⟨x,r⟩:=y (cu a 5);rw[<-p]at e|-;rw[<-q]at g|-;rw[<-s]at h|-;rw[<-t]at i|-;rw[<-o]at m|-;rw[<-r]at n|-;clear p q s t o r f;cases v;case true=>
  go_enter func128,ntmps128;go_wp2_with fail;refine e.out.mono ?_;exact ex
 cases w;case true=>
  go_enter func128,ntmps128;go_wp2_with fail;refine e.out.mono ?_;rintro b c ⟨rfl,rfl⟩;go_wp2_with fail;refine g.out.mono ?_;exact ex
 cases z;case true=>
  go_enter func128,ntmps128;go_wp2_with fail;refine e.out.mono ?_;rintro b c ⟨rfl,rfl⟩;go_wp2_with fail;refine g.out.mono ?_;rintro b c ⟨rfl,rfl⟩;go_wp2_with fail;refine h.out.mono ?_;exact ex
 cases A;case true=>
  go_enter func128,ntmps128;go_wp2_with fail;refine e.out.mono ?_;rintro b c ⟨rfl,rfl⟩;go_wp2_with fail;refine g.out.mono ?_;rintro b c ⟨rfl,rfl⟩;go_wp2_with fail;refine h.out.mono ?_;rintro b c ⟨rfl,rfl⟩;go_wp2_with fail;refine i.out.mono ?_;exact ex
 cases u;case true=>
  go_enter func128,ntmps128;go_wp2_with fail;refine e.out.mono ?_;rintro b c ⟨rfl,rfl⟩;go_wp2_with fail;refine g.out.mono ?_;rintro b c ⟨rfl,rfl⟩;go_wp2_with fail;refine h.out.mono ?_;rintro b c ⟨rfl,rfl⟩;go_wp2_with fail;refine i.out.mono ?_;rintro b c ⟨rfl,rfl⟩;go_wp2_with fail;refine m.out.mono ?_;exact ex
 cases x;all_goals
  go_enter func128,ntmps128;go_wp2_with fail;refine e.out.mono ?_;rintro b c ⟨rfl,rfl⟩;go_wp2_with fail;refine g.out.mono ?_;rintro b c ⟨rfl,rfl⟩;go_wp2_with fail;refine h.out.mono ?_;rintro b c ⟨rfl,rfl⟩;go_wp2_with fail;refine i.out.mono ?_;rintro b c ⟨rfl,rfl⟩;go_wp2_with fail;refine m.out.mono ?_;rintro b c ⟨rfl,rfl⟩;go_wp2_with fail;refine n.out.mono ?_;exact ex
def gb (a b:Nat):Nat:=if 2147483648<=b/\¬a&&&1=0 then(aI a 3+4* (b-2147483648))%4294967296 else aI a 3
def Fo (a c:Nat)(w:G a)(v:G c)(q:D):
 O 190 #[j a,j c] (j (gb a c)) q:=by
 have n:bits .andNot .i64 (a:Int) 3=((aI a 3:Nat):Int):=gs a 3 m m;have g:bits .and .i64 (a:Int) 1=((a&&&1:Nat):Int):=bm a 1 m m;have e:=fh (a&&&1);rw[<-g]at e;have o:=h0 a 3;obtain⟨t,b⟩:=y (gb a c);rw[<-b];unfold gb at b;obtain⟨h,hu⟩:=y (aI a 3);rw[<-hu]at b n o;have r:Hid (am (h:Int)=h):=l (xY h m);clear hu;by_cases f:2147483648<=c
 . by_cases d:a&&&1=0
   . rw[z (fun f=>f.2 d)]at b;have p:(bits .and .i64 (a:Int) 1 !=0)=false:=by rw[e,d];rfl
     subst b;clear e d g;exact Jl
   . rw[B ⟨f,d⟩]at b;have p:(bits .and .i64 (a:Int) 1 !=0)=true:=by rw[e];rw[aV d];rfl
     have k:=l b;clear e d g b;go_enter func190,ntmps190;go_wp2_with(go_at_call 136;refine(e0 _ _).mono ?_;rintro u s ⟨rfl,rfl⟩);go_ret;exact⟨eM (by rw[k.out];unfold am;omega),rfl⟩
 . rw[z (fun i=>f i.1)]at b;subst b;have x:decide ((2147483648:Int)<=c)=false:=M;exact Jl
def Fp (a:Nat)(h:G a)(f:D):
 O 377 #[j a] (.bool (decide (a&&&10=0))) f:=by
 have c:bits .and .i64 (a:Int) 10=((a&&&10:Nat):Int):=bm a 10 m m;have e:((((a&&&10:Nat)):Int)==0)=decide (a&&&10=0):=by by_cases d:a&&&10=0<;>simp[d]
 obtain⟨g,b⟩:=y (decide (a&&&10=0));rw[<-c,<-b]at e;rw[<-b];clear c b;go_enter func377,ntmps377;exact cn
def ahl (a:Int)(k:52<=a)(n:a<=60)(b c:Nat)(o:G b)(q:G c)(i:D):
 O 350 #[j a,j b,j c] (j (cp a b c)) i:=by
 have r:=Bq b c m m;have s:=bm b c m m;have t:=g8 b c m m;have e:a=52\/a=53\/a=54\/a=55\/a=56\/a=57\/a=58\/a=59\/a=60:=J;have h:∀p:Prop,∀_:Decidable p,(bif decide p then(b:Int)else c)=((if p then b else c:Nat):Int):=by
  intro p _;by_cases e:p<;>simp[e]
 have d:=l h;clear h;rcases e with rfl|rfl|rfl|rfl|rfl|rfl|rfl|rfl|rfl;all_goals
  go_enter func350,ntmps350;go_wp2_with(first|(go_at_call 136;refine(e0 _ _).mono ?_;rintro g f ⟨rfl,rfl⟩)|(go_at_call 264;refine(tM _ rk _).mono ?_;rintro g f ⟨rfl,rfl⟩)|(go_at_call 348;refine(Fg _ _ _ _).mono ?_;rintro g f ⟨rfl,rfl⟩));go_ret;refine⟨eM ?_,rfl⟩;try simp only[qP]
 . rfl
 . exact Et b c
 . rfl
 . rfl
 . rfl
 . exact d.out _ _
 . exact d.out _ _
 . exact d.out _ _
 . exact d.out _ _
section
attribute [local go_sem ↓] Go.wp_at_zero Go.wp_at_succ
def af4 (k q e)(f:af e)(b a:Int)(i:a<=9223372036854775807)(g:a<0\/b<0\/(e.b.o.length:Int)-a<b)(l)(n:Hid (E l k q e)):
 O 121 #[I k,j b,j a] (.tuple #[.string ⟨#[]⟩,j 2]) l:=by
 have r:=n.out.V8;have h:=f.b.o;by_cases d:a<0
 . have o:decide (a<0)=true:=iZ;clear g d i h f;exact vz
 have o:decide (a<0)=false:=M;by_cases c:b<0
 . have p:decide (b<0)=true:=eT;clear g d c i h f;exact vz
 have p:decide (b<0)=false:=M;have s:IntKind.i64.wrap ((e.b.o.length:Int)-a)=(e.b.o.length:Int)-a:=lN;have t:decide ((e.b.o.length:Int)-a<b)=true:=M;clear g d c h f i;exact vz
end
def ny :A1:=⟨0,0,0,0,0,0,0,0,0,0,0,0,0,0,0,0,0,0,0,0,0,0,0⟩
def wB (a:N):N:={a with x:=List.replicate 32 0,V3:=2147483648,mode:=3,waits:=false,W9:=false,WU:=0}
def k3 (a:N):N:={b:=pW a.b,c:=ny,x:=List.replicate 32 0,V3:=2147483648,mode:=3,waits:=false,W9:=false,WU:=0}
def Cb :(prog.info? 67).map (·.size)=some 37:=by kernel_rfl
def RP :(prog.info? 71).map (·.size)=some 23:=by kernel_rfl
def Cc :(prog.info? 73).map (·.size)=some 5:=by kernel_rfl
def Cd :(prog.info? 75).map (·.size)=some 5:=by kernel_rfl
def sD :List Value:=[j 0,j 0,j 0,j 0,j 0,j 0,j 0,j 0,j 0,j 0,j 0,j 0,j 0,j 0,j 0,j 0,j 0,j 0,j 0,j 0,j 0,j 0,j 0,j 0,j 0,j 0,j 0,j 0,j 0,j 0,j 0,j 0,j 2147483648,j 3,.bool false,.bool false,j 0]
def ss :List Value:=[j 0,j 0,j 0,j 0,j 0,j 0,j 0,j 0,j 0,j 0,j 0,j 0,j 0,j 0,j 0,j 0,j 0,j 0,j 0,j 0,j 0,j 0,j 0]
def tl :List Value:=[j 0,j 0,j 0,j 4294967295,j 4294967295]
def sY :List Value:=[j 0,j 0,.bool false,.string ⟨#[]⟩,.string ⟨#[]⟩]
def Fc (c j d e)(f:Hid (E e c j d)):
 an 36 #[I c] (.tuple #[]) [c] c j (k3 d) e:=by
 have g:=l (f.out.Xh (X':=wB d) 1 sD rfl R rfl);have h:=l (g.out.Xh (X':={wB d with c:=ny}) 38 ss rfl R rfl);have i:=l (h.out.Xh (X':={wB d with c:=ny,b:={d.b with Wj:=0,time:=0,Wh:=0,cmp:=4294967295,Wv:=4294967295}}) 61 tl rfl R rfl);have m:=l (i.out.Xh (X':=k3 d) 66 sY rfl R rfl);have k:Hid (Kept [c] e ((((e.setCells c 1 sD).setCells c 38 ss).setCells c 61 tl).setCells c 66 sY)):=l (Kept.Xh _ (.inl F) _ _ _ (Kept.Xh _ (.inl F) _ _ _ (Kept.Xh _ (.inl F) _ _ _ (Kept.Xh _ (.inl F) _ _ _ (Kept.refl _ _)))));have t1:=l (f.out.YF 1 37 R);have t2:=l (g.out.YF 38 23 R);have t3:=l (h.out.YF 61 5 R);have t4:=l (i.out.YF 66 5 R);clear f g h i;go_enter func36,ntmps36;go_upto_region 0 with fail;refine gj ?_;refine wpList_plain rfl (fun b a=>?_);go_simp;refine a _ _ ?_;clear a b;refine wpList_plain rfl (fun b a=>?_);go_simp;refine a _ _ ?_;clear a b;refine wpList_plain rfl (fun b a=>?_);go_simp;refine a _ _ ?_;clear a b;refine wpList_plain rfl (fun b a=>?_);go_simp;refine a _ _ ?_;clear a b;refine gl rfl _ _ _ rfl c 1 sD.toArray rfl rfl t1.out (by rw[Cb];rfl) uF ?_;refine gm ?_;go_upto_region 1 with fail;refine gj ?_;refine wpList_plain rfl (fun b a=>?_);go_simp;refine a _ _ ?_;clear a b;refine wpList_plain rfl (fun b a=>?_);go_simp;refine a _ _ ?_;clear a b;refine wpList_plain rfl (fun b a=>?_);go_simp;refine a _ _ ?_;clear a b;refine wpList_plain rfl (fun b a=>?_);go_simp;refine a _ _ ?_;clear a b;refine gl rfl _ _ _ rfl c 38 ss.toArray rfl rfl t2.out (by rw[RP];rfl) uF ?_;refine gm ?_;go_upto_region 2 with fail;refine gj ?_;refine wpList_plain rfl (fun b a=>?_);go_simp;refine a _ _ ?_;clear a b;refine wpList_plain rfl (fun b a=>?_);go_simp;refine a _ _ ?_;clear a b;refine wpList_plain rfl (fun b a=>?_);go_simp;refine a _ _ ?_;clear a b;refine wpList_plain rfl (fun b a=>?_);go_simp;refine a _ _ ?_;clear a b;refine wpList_plain rfl (fun b a=>?_);go_simp;refine a _ _ ?_;clear a b;refine gl rfl _ _ _ rfl c 61 tl.toArray rfl rfl t3.out (by rw[Cc];rfl) uF ?_;refine gm ?_;go_upto_region 3 with fail;refine gj ?_;refine wpList_plain rfl (fun b a=>?_);go_simp;refine a _ _ ?_;clear a b;refine wpList_plain rfl (fun b a=>?_);go_simp;refine a _ _ ?_;clear a b;refine wpList_plain rfl (fun b a=>?_);go_simp;refine a _ _ ?_;clear a b;refine wpList_plain rfl (fun b a=>?_);go_simp;refine a _ _ ?_;clear a b;refine gl rfl _ _ _ rfl c 66 sY.toArray rfl rfl t4.out (by rw[Cd];rfl) uF ?_;refine gm ?_;go_wp2_with fail;go_end0;exact⟨rfl,m.out,k.out⟩
def pV (a:Nat):P:={o:=List.replicate a 0,Wj:=0,time:=0,Wh:=0,cmp:=0,Wv:=0,enable:=0,Wr:=0,lost:=false,rx:=⟨#[]⟩,Wc:=⟨#[]⟩}
def kW (a:Nat):N:={b:=pV a,c:=ny,x:=List.replicate 32 0,V3:=0,mode:=0,waits:=false,W9:=false,WU:=0}
def hN (a:Nat):N:=k3 (kW a)
def af1 (a:Int)(b:a<0\/65536<a)(d:D):
 O 23 #[j a] (.tuple #[.pointer none,j 2]) d:=by
 rcases b with b|b
 . have c:decide (a<0)=true:=g0;exact LL
 . have c:decide (a<0)=false:=M;have e:decide (a>65536)=true:=M;exact LL
def mn (b a:Nat):Obj:=.cells #[.slice (some ⟨b,0,none⟩) a a,j 0,j 0,j 0,j 0,j 0,j 0,j 0,j 0,j 0,j 0,j 0,j 0,j 0,j 0,j 0,j 0,j 0,j 0,j 0,j 0,j 0,j 0,j 0,j 0,j 0,j 0,j 0,j 0,j 0,j 0,j 0,j 0,j 0,j 0,.bool false,.bool false,j 0,j 0,j 0,j 0,j 0,j 0,j 0,j 0,j 0,j 0,j 0,j 0,j 0,j 0,j 0,j 0,j 0,j 0,j 0,j 0,j 0,j 0,j 0,j 0,j 0,j 0,j 0,j 0,j 0,j 0,j 0,.bool false,.string ⟨#[]⟩,.string ⟨#[]⟩] 77
def CA (b a:Nat):mn b a=.cells (ct b (kW a)).toArray 77:=by
 unfold mn ct kW pV ny;simp
def S6 (W:D)(a:Nat):E ((W.alloc (.cells (madeCells #[.int .u8 0] a) 5)).alloc (mn W.heap.size a)) (W.heap.size+1) W.heap.size (kW a):=by
 have o:Below (W.alloc (.cells (madeCells #[.int .u8 0] a) 5)).heap.size (W.alloc (.cells (madeCells #[.int .u8 0] a) 5)) ((W.alloc (.cells (madeCells #[.int .u8 0] a) 5)).alloc (mn W.heap.size a)):=lT;have f:∀c,c<a->(W.alloc (.cells (madeCells #[.int .u8 0] a) 5)).cell? ⟨W.heap.size,c,none⟩=some (.int .u8 0):=by
  intro c d;simp[madeCells,d,q3]
 have x:∀b,(W.alloc (.cells (madeCells #[.int .u8 0] a) 5)).frozen? ⟨W.heap.size,b,none⟩=false:=by intro b;simp
 refine⟨fun h g=>?_,fun b=>?_,?_,fun c d=>?_,fun b=>?_,?_,?_⟩
 . rw[CA];simp
 . rw[CA];simp
 . simp
 . have e:c<a:=by simpa[kW,pV]using d
   rw[o.cell (p:=⟨W.heap.size,c,none⟩) (by simp),f c e];simp[kW,pV]
 . exact I3
 . simp;omega
 . omega
def Fb (a:Nat)(C:a<=65536)(W:D):
 Calls prog 23 #[j a] W fun n c=>n=.returned (.tuple #[.pointer (some ⟨W.heap.size+1,0,none⟩),j 0])/\E c (W.heap.size+1) W.heap.size (hN a)/\Kept [] W c:=by
 obtain⟨z,u,x,e,k⟩:=hy Tryz.Yu;have A:decide ((a:Int)<0)=false:=bN;have B:decide (65536< (a:Int))=false:=M;have w:∀f,(Instr.makeSlice 64 (.int .i64 (a:Int)) (.int .i64 (a:Int))).run prog f=.ok (.slice (some ⟨f.heap.size,0,none⟩) a a) (f.alloc (.cells (madeCells #[.int .u8 0] a) 5)):=by
  intro f;have o:=uh (P:=prog) f 64 5 z (.int .u8 0) gQ u x .i64 .i64 a a m (ju _) uv uw m;rw[e]at o;simpa[Value.cells]using o
 obtain⟨s,q⟩:=y (Obj.cells (madeCells #[.int .u8 0] a) 5);have g:=S6 W a;rw[<-q]at g w;have i:=l (Fc (W.heap.size+1) W.heap.size _ _ (l g));have b:Hid (Kept [] W ((W.alloc s).alloc (mn W.heap.size a))):=l (((Kept.refl _ _).alloc _).alloc _);have h:Hid (∀c,Kept [W.heap.size+1] ((W.alloc s).alloc (mn W.heap.size a)) c->Kept [] W c):=l (fun c d=>⟨d.os.trans b.out.os,d.tape.trans b.out.tape,d.output.trans b.out.output,fE b.out.size d.size,fun r p _=>(d.block r (aR p b.out.size) ad).trans (b.out.block r p F)⟩);unfold mn at i h;unfold hN;clear g b q;go_enter func23,ntmps23;go_wp2_with fail;refine i.out.mono ?_;rintro n G ⟨rfl,t,v⟩;go_wp2_with fail;go_ret2;exact⟨rfl,t,h.out _ v⟩
end Go.Proofs.YtmlgonbhoknoiaaGreatDoor
