import Derived.Test.YtmlgonbhoknoiabGreatDoorJAG
import Derived.Test.YtmlgonbhoknoiabGreatDoorJAI
set_option maxHeartbeats 8000000
set_option maxRecDepth 100000
set_option linter.all false
namespace Go.Proofs.YtmlgonbhoknoiabGreatDoor
open Go.RowKit Go.Proofs.Tryz
def jp (B:P)(a:Nat):P:={B with time:=(B.time+a)%4294967296,Wh:=(B.Wh+(B.time+a)/4294967296)%4294967296}
def aca (c:Nat)(a:Int)(f:a<0\/4294967295<a)(e:D):
 O 244 #[I c,j a] (j 2) e:=by
 by_cases b:a<0
 . have d:decide (a<0)=true:=kq;exact Jg
 . have d:decide (a<0)=false:=M;have g:decide (4294967295<a)=true:=M;exact Jg
def ab9 (d s:Nat)(a:P)(i:aS a)(b:Nat)(z:b<=4294967295)(g:D)(e:Hid (ap g d s a)):
 Calls prog 244 #[I d,j b] g fun w h=>w=.returned (j 0)/\ap h d s (jp a b)/\Kept [d] g h:=by
 have u:=i.time;have v:=i.Wh;have c2:=e.out.c2;have c3:=e.out.c3;have x:=e.out.Wb;have A:decide ((b:Int)<0)=false:=bL;have B:decide (4294967295< (b:Int))=false:=M;have c:=(e.out.YO ((a.time+b)%4294967296)).YP ((a.Wh+(a.time+b)/4294967296)%4294967296);have q:((a.time:Int)+b).tmod 4294967296=(((a.time+b)%4294967296:Nat):Int):=fc;have d1:((a.time:Int)+b).tdiv 4294967296=(((a.time+b)/4294967296:Nat):Int):=kl;have hd:(a.time+b)/4294967296<=4:=J;unfold jp;obtain⟨f,k⟩:=y ((a.time+b)/4294967296);rw[<-k]at d1 hd c|-;have r:((a.Wh:Int)+f).tmod 4294967296=(((a.Wh+f)%4294967296:Nat):Int):=fc;obtain⟨G,o⟩:=y ((a.time+b)%4294967296);obtain⟨H,p⟩:=y ((a.Wh+f)%4294967296);rw[<-o]at q c|-;rw[<-p]at r c|-;have t:=l c;obtain⟨C,m⟩:=y (a.time);obtain⟨E,n⟩:=y (a.Wh);rw[<-m]at u c2 q d1;rw[<-n]at v c3 r;clear k o p c m n;go_enter func244,ntmps244;go_wp2_with fail;go_ret;exact⟨rfl,t.out,((Kept.refl _ _).setCell (.inl F) _).setCell (.inl F) _⟩
def abH (a f:Nat)(b:P)(d:D)(c:Hid (ap d a f b)):
 Calls prog 246 #[I a] d fun g e=>g=.returned (.string b.Wc)/\ap e a f {b with Wc:=⟨#[]⟩}/\Kept [a] d e:=by
 have h:=c.out.Xt;have i:=c.out.Wb;have E:=l (c.out.YS ⟨#[]⟩);go_enter func246,ntmps246;exact Jh
def qc (a:P):P:={o:=a.o,Wj:=0,time:=0,Wh:=0,cmp:=4294967295,Wv:=4294967295,enable:=0,Wr:=0,lost:=false,rx:=⟨#[]⟩,Wc:=⟨#[]⟩}
def E2 (a f:Nat)(e:P)(c:D)(i:Hid (ap c a f e)):
 Calls prog 247 #[I a] c fun h d=>h=.returned (.tuple #[])/\ap d a f (qc e)/\Kept [a] c d:=by
 have b:=i.out;have g:=l ((((((((((b.Zb 0).YO 0).YP 0).Yz 4294967295).Zc 4294967295).Zd 0).Ze 0).YQ false).YR ⟨#[]⟩).YS ⟨#[]⟩);obtain⟨-,c1,c2,c3,c4,c5,k,m,n,o,j,p,-,-,-,-,-⟩:=id b;clear b;go_enter func247,ntmps247;go_wp2_with fail;go_end0;refine⟨rfl,g.out,?_⟩;exact pJ
def BX (a:Nat):P:={o:=List.replicate a 0,Wj:=0,time:=0,Wh:=0,cmp:=4294967295,Wv:=4294967295,enable:=0,Wr:=0,lost:=false,rx:=⟨#[]⟩,Wc:=⟨#[]⟩}
def ack (a:Nat)(N:a<=65536)(W:D):
 Calls prog 238 #[j a] W fun s h=>(∃p v,s=.returned (.tuple #[I p,j 0])/\W.heap.size<=p/\W.heap.size<=v/\ap h p v (BX a))/\Below W.heap.size W h:=by
 obtain⟨J,B,H,e,k⟩:=hx Tryz.Yu;have K:decide ((a:Int)<0)=false:=bL;have L:decide (65536< (a:Int))=false:=M;have E:∀i,(Instr.makeSlice 64 (.int .i64 (a:Int)) (.int .i64 (a:Int))).run prog i=.ok (.slice (some ⟨i.heap.size,0,none⟩) a a) (i.alloc (.cells (madeCells #[.int .u8 0] a) 5)):=by
  intro i;have t:=uD (P:=prog) i 64 5 J (.int .u8 0) gP B H .i64 .i64 a a m (jx _) uR uS m;rw[e]at t;simpa[Value.cells]using t
 obtain⟨d,n⟩:=y (Obj.cells (madeCells #[.int .u8 0] a) 5);have u:ap ((W.alloc d).alloc (nB (some ⟨W.heap.size,0,none⟩) a a)) (W.heap.size+1) W.heap.size {o:=List.replicate a 0,Wj:=0,time:=0,Wh:=0,cmp:=0,Wv:=0,enable:=0,Wr:=0,lost:=false,rx:=⟨#[]⟩,Wc:=⟨#[]⟩}:=by
  have G:∀f,f<a->(W.alloc d).cell? ⟨W.heap.size,f,none⟩=some (.int .u8 0):=by
   intro f g;rw[n];simp[madeCells,g,rl]
  have x:∀b,(W.alloc d).frozen? ⟨W.heap.size,b,none⟩=false:=by intro b;rw[n];simp
  have o:Below (W.alloc d).heap.size (W.alloc d) ((W.alloc d).alloc (nB (some ⟨W.heap.size,0,none⟩) a a)):=lT;refine⟨?_,?_,?_,?_,?_,?_,?_,?_,?_,?_,?_,?_,?_,fun f g=>?_,fun b=>?_,?_,?_⟩;case refine_14=>
   have z:f<a:=pR;rw[o.cell (p:=⟨W.heap.size,f,none⟩) (by simp),G f z];simp
  case refine_15=>exact Jn
  case refine_16=>simp;omega
  case refine_17=>omega
  all_goals (unfold nB;simp)
 have r:=l (E2 (W.heap.size+1) W.heap.size _ _ (l u));have c:Hid (Below W.heap.size W ((W.alloc d).alloc (nB (some ⟨W.heap.size,0,none⟩) a a))):=l (((aq _ _).alloc (aB _) _).alloc F _);have q:Hid (∀h,Kept [W.heap.size+1] ((W.alloc d).alloc (nB (some ⟨W.heap.size,0,none⟩) a a)) h->Below W.heap.size W h):=Kq;rw[<-n]at E;unfold nB at r q;clear u c n;go_enter func238,ntmps238;go_wp2_with fail;refine r.out.mono ?_;rintro s O ⟨rfl,A,C⟩;go_wp2_with fail;go_ret2;exact⟨⟨_,_,rfl,by omega,aB _,A⟩,q.out _ C⟩
def adS (b d e h g:Nat)(a:ai)(c:D)(f:Hid (V c b d e h g a)):
 O 182 #[I b] (j a.V3) c:=by
 have c3:=f.out.c3;go_enter func182,ntmps182;exact cm
def adP (c e f h g:Nat)(a:ai)(d:D)(b:Hid (V d c e f h g a)):
 O 183 #[I c] (j a.f.mode) d:=by
 have c1:=b.out.c1;have d1:=b.out.WW.c1;go_enter func183,ntmps183;exact cm
def adZ (e c h i f:Nat)(a:ai)(b:D)(d:Hid (V b e c h i f a)):
 O 184 #[I e] (j a.b.o.length) b:=by
 have k:=d.out.V8;have g:=l (acq c f a.b b (l d.out.Wt));go_enter func184,ntmps184;go_wp2_with fail;refine g.out.mono ?_;exact ex
def adW (a:Nat)(i:Int)(e:i<0\/31<i)(d:D):
 O 180 #[I a,j i] (.tuple #[j 0,j 2]) d:=by
 by_cases b:i<0
 . have c:decide (i<0)=true:=kq;exact z7
 . have c:decide (i<0)=false:=M;have f:decide (31<i)=true:=M;exact z7
def V.Zw {k:D}{c o p f s:Nat}{h:ai}(a:V k c o p f s h)(d:Nat)(hd:d<32)(n:Nat):V (k.setCell ⟨f,d,none⟩ (j (n:Int))) c o p f s {h with x:=h.x.set d n}:=by
 have q:=a.nodup;simp only[gR,dB,eR,eS,gh,iS,gf]at q;obtain⟨⟨C,E,A,G⟩,⟨H,y,I⟩,⟨z,J⟩,x,_⟩:=q;have b:Kept [f] k (k.setCell ⟨f,d,none⟩ (j (n:Int))):=vS;have v:=a.XD;have w:=a.X7;have B:=a.cq d m;refine⟨(b.cell (p:=⟨c,0,none⟩) a.lt m4).trans a.V8,(b.cell (p:=⟨c,1,none⟩) a.lt m4).trans a.c1,(b.cell (p:=⟨c,2,none⟩) a.lt m4).trans a.c2,(b.cell (p:=⟨c,3,none⟩) a.lt m4).trans a.c3,(b.cell (p:=⟨c,4,none⟩) a.lt m4).trans a.c4,(b.cell (p:=⟨c,5,none⟩) a.lt m4).trans a.c5,fun l=>(b.frozen (p:=⟨c,l,none⟩) a.lt m4).trans (a.Wb l),aQ a.lt b.size,a.Wt.more b (by simp[y]) (by simp;exact fun e=>x e.symm),a.WW.more b (by simp[z]),by simp[v],fun i g=>?_,fun l=>?_,aQ a.Xc b.size,a.nodup⟩
 . have u:i<h.x.length:=pR;have r:=a.cq i u;by_cases e:i=d
   . subst e;simp[go_sem,r]
   . have t:¬d=i:=fun a=>e a.symm;simp[go_sem,r,e,t,mQ]
 . simp[go_sem,w]
def dV (a:ai)(b:Nat)(c:Int):ai:=if b=0 then a else{a with x:=a.x.set b (am c)}
def q4 (e n p g r:Nat)(k:ai)(c:Nat)(hd:c<32)(d:Int)(f:D)(a:Hid (V f e n p g r k)):
 Calls prog 394 #[I e,j c,j d] f fun o h=>o=.returned (.tuple #[])/\V h e n p g r (dV k c d)/\Kept [g] f h:=by
 unfold dV;by_cases b:c=0
 . rw[B b];have s:((c:Int) !=0)=false:=gZ;clear b;go_enter func394,ntmps394;exact vH
 . rw[z b];have s:((c:Int) !=0)=true:=M;have i:=l (fW d);have m:=l ((a.out.more (Below.kept (aq _ _).drew []) F F F F F).Zw c hd (am d));have c2:=a.out.c2;have t:=a.out.cq c (by rw[a.out.XD];exact hd);have w:=a.out.X7 c;obtain⟨v,q⟩:=y (am d);rw[<-q]at i m|-;clear q b;go_enter func394,ntmps394;go_upto_region 1 with fail;go_region_with(go_at_call 368;refine(i.out _).mono ?_;rintro o u ⟨rfl,rfl⟩);all_goals (go_wp2_with fail;go_end0;exact⟨rfl,m.out,(Kept.refl _ _).drew.setCell (.inl F) _⟩)
def jh (a:Nat):Nat:=if a=0 then 11 else if a=1 then 3 else if a=2 then 7 else if a=3 then 9 else if a=4 then 1 else 5
def adF (a:Nat)(d:a<6)(c:D):
 O 390 #[j a] (j (jh a)) c:=by
 have b:a=0\/a=1\/a=2\/a=3\/a=4\/a=5:=J;rcases b with rfl|rfl|rfl|rfl|rfl|rfl;all_goals
  go_enter func390,ntmps390;exact cm
def Da (a:Nat):jh a<=11:=by unfold jh;repeat(first|omega|split)
def md (b:Nat):Nat->Nat->Int
 |0,_=> -1
 |c+1,a=>if b/2^jh a%2=1 then(jh a:Int)else md b c (a+1)
def jU (a:Nat):Int:=md a 6 0
def E5 (b:Nat)(x:G b)(C:D):
 O 363 #[j b] (j (jU b)) C:=by
 obtain⟨d,n⟩:=y (jU b);rw[<-n];have c:Hid (d=md b (6-0) 0):=n;clear n;go_enter func363,ntmps363;go_wp2_with fail;go_loop [3] (fun k=>∃a:Nat,a<=6/\k=j a/\Hid (d=md b (6-a) a)) (fun k=>6- (intOf k).toNat);case atStart=>exact vC
 case round=>
  obtain⟨a,F,rfl,h⟩:=hrel;clear c;by_cases v:a<6
  . have p:=l (adF a v);have g:=l (e7 b (jh a) x (by have:=Da a;omega));have e:Hid (d=if b/2^jh a%2=1 then(jh a:Int)else md b (6- (a+1)) (a+1)):=by
     show d=_;rw[h.out,show 6-a=(6- (a+1))+1 by omega];rfl
    have w:=Da a;obtain⟨t,s⟩:=y (jh a);rw[<-s]at p g e w;obtain⟨i,r⟩:=y (b/2^t%2);rw[<-r]at g e;clear h s r;by_cases f:i=1
    . have A:((i:Int)==1)=true:=M;have o:Hid (d=(t:Int)):=by show d=_;rw[e.out,B f]
      clear e f;go_wp2_with fail;refine(p.out _).mono ?_;rintro m q ⟨rfl,rfl⟩;go_wp2_with fail;refine(g.out _).mono ?_;rintro m q ⟨rfl,rfl⟩;go_wp2_with fail;go_ret;exact⟨by rw[o.out]<;>rfl,rfl⟩
    . have A:((i:Int)==1)=false:=M;have o:Hid (d=md b (6- (a+1)) (a+1)):=by show d=_;rw[e.out,z f]
      clear e f;go_wp2_with fail;refine(p.out _).mono ?_;rintro m q ⟨rfl,rfl⟩;go_wp2_with fail;refine(g.out _).mono ?_;rintro m q ⟨rfl,rfl⟩;go_wp2_with fail;go_round;case rel=>exact⟨a+1,by omega,by go_num,o⟩
      case measure=>exact a4
  . have E:decide ((a:Int)<6)=false:=M;have u:Hid (d=-1):=by show d=_;rw[h.out,show 6-a=0 by omega];rfl
    clear h;go_wp2_with fail;go_ret;exact⟨by rw[u.out]<;>rfl,rfl⟩
def kM (a:Nat)(b:Int)(c:Bool):Nat:=if c=true then(if decide (a%2=1)=true then am ((a:Int)-a%4+4*b)else a-a%4)else a-a%4
def E4 (a:Nat)(x:G a)(b:Int)(v:-1<=b)(w:b<=100)(d:Bool)(e:D):
 O 364 #[j a,j b,.bool d] (j (kM a b d)) e:=by
 unfold kM;have s:(a:Int).tmod 4=((a%4:Nat):Int):=iz a 4;have r:=j1 a;have n:=jc (a%2);have p:a%4<=a:=Nat.mod_le _ _;have q:a%4<4:=J;have g:=l (fW ((a:Int)- ((a%4:Nat):Int)+4*b));have c:Hid (∀e,O 368 #[j ((a:Int)- ((a%4:Nat):Int)+4*b)] (j (am ((a:Int)-a%4+4*b))) e):=g;obtain⟨o,i⟩:=y (decide (a%2=1));rw[<-i]at n|-;obtain⟨u,h⟩:=y (am ((a:Int)-a%4+4*b));rw[<-h]at c|-;obtain⟨f,k⟩:=y (a%4);rw[<-k]at s p q c|-;obtain⟨z,m⟩:=y (a%2);rw[<-m]at r n;have t:Hid (((a-f:Nat):Int)=(a:Int)-f):=ig;clear i h k m g;cases d<;>cases o
 . exact z8
 . exact z8
 . exact z8
 . go_enter func364,ntmps364;go_wp2_with fail;refine(c.out _).mono ?_;exact ex
structure Ow (c a b e d:Nat):Prop where
 Zx:c≠a
 Zy:c≠b
 ZW:c≠e
 Zz:c≠d
 Zf:a≠b
 ZA:a≠e
 ZX:a≠d
 ax:b≠e
 Zg:b≠d
 ZB:e≠d
def V.Zh {s:D}{d a b f e:Nat}{g:ai}(h:V s d a b f e g):Ow d a b f e:=by
 have c:=h.nodup;simp only[gR,dB,eR,eS,gh,iS,gf]at c;obtain⟨⟨i,k,l,m⟩,⟨n,o,p⟩,⟨q,r⟩,j,_⟩:=c;exact⟨i,k,l,m,n,o,p,q,r,j⟩
def V.Xy {q j:D}{c d l i f:Nat}{n:ai}{m:P}(a:V q c d l i f n)(b:Kept [d,f] q j)(r:ap j d f m):V j c d l i f {n with b:=m}:=by
 have g:=a.Zh;have e:c∉ [d,f]:=by simp;exact⟨g.Zx,g.Zz⟩
 have t:l∉ [d,f]:=by simp;exact⟨fun k=>g.Zf k.symm,g.Zg⟩
 have p:i∉ [d,f]:=by simp;exact⟨fun k=>g.ZA k.symm,g.ZB⟩
 exact⟨(b.cell (p:=⟨c,0,none⟩) a.lt e).trans a.V8,(b.cell (p:=⟨c,1,none⟩) a.lt e).trans a.c1,(b.cell (p:=⟨c,2,none⟩) a.lt e).trans a.c2,(b.cell (p:=⟨c,3,none⟩) a.lt e).trans a.c3,(b.cell (p:=⟨c,4,none⟩) a.lt e).trans a.c4,(b.cell (p:=⟨c,5,none⟩) a.lt e).trans a.c5,fun h=>(b.frozen (p:=⟨c,h,none⟩) a.lt e).trans (a.Wb h),aQ a.lt b.size,r,a.WW.more b t,a.XD,fun o s=>(b.cell (p:=⟨i,o,none⟩) a.Xc p).trans (a.cq o s),fun h=>(b.frozen (p:=⟨i,h,none⟩) a.Xc p).trans (a.X7 h),aQ a.Xc b.size,a.nodup⟩
def V.XE {q j:D}{c h d g l:Nat}{n:ai}{m:Q}(a:V q c h d g l n)(b:Kept [d] q j)(r:T j d h m):V j c h d g l {n with f:=m}:=by
 have i:=a.Zh;have e:c∉ [d]:=by simp;exact i.Zy
 have t:h∉ [d]:=by simp;exact i.Zf
 have p:g∉ [d]:=by simp;exact fun k=>i.ax k.symm
 have u:l∉ [d]:=by simp;exact fun k=>i.Zg k.symm
 exact⟨(b.cell (p:=⟨c,0,none⟩) a.lt e).trans a.V8,(b.cell (p:=⟨c,1,none⟩) a.lt e).trans a.c1,(b.cell (p:=⟨c,2,none⟩) a.lt e).trans a.c2,(b.cell (p:=⟨c,3,none⟩) a.lt e).trans a.c3,(b.cell (p:=⟨c,4,none⟩) a.lt e).trans a.c4,(b.cell (p:=⟨c,5,none⟩) a.lt e).trans a.c5,fun f=>(b.frozen (p:=⟨c,f,none⟩) a.lt e).trans (a.Wb f),aQ a.lt b.size,a.Wt.more b t u,r,a.XD,fun o s=>(b.cell (p:=⟨g,o,none⟩) a.Xc p).trans (a.cq o s),fun f=>(b.frozen (p:=⟨g,f,none⟩) a.Xc p).trans (a.X7 f),aQ a.Xc b.size,a.nodup⟩
def adK (f c i j d:Nat)(a:ai)(e:D)(b:Hid (V e f c i j d a)):
 Calls prog 175 #[I f] e fun k g=>k=.returned (.string a.b.Wc)/\V g f c i j d {a with b:={a.b with Wc:=⟨#[]⟩}}/\Kept [c,d] e g:=by
 have m:=b.out.V8;have n:=l (abH c d a.b e (l b.out.Wt));go_enter func175,ntmps175;exact Jv
def ad0 (g c k m e:Nat)(a:ai)(r:aS a.b)(d:Nat)(p:d<=4294967295)(f:D)(b:Hid (V f g c k m e a)):
 Calls prog 173 #[I g,j d] f fun o i=>o=.returned (j 0)/\V i g c k m e {a with b:=jp a.b d}/\Kept [c,e] f i:=by
 have s:=b.out.V8;have n:=l (ab9 c e a.b r d p f (l b.out.Wt));go_enter func173,ntmps173;exact Jv
def adL (g d n p e:Nat)(c:ai)(t:c.b.rx.size<=4)(a:K)(s:a.size<=64)(f:D)(b:Hid (V f g d n p e c)):
 Calls prog 174 #[I g,.string a] f fun m i=>m=.returned (.tuple #[j (eo a a.size 0 0 c.b).1,j 0])/\V i g d n p e {c with b:=(eo a a.size 0 0 c.b).2}/\Kept [d,e] f i:=by
 have v:=b.out.V8;have k:=l (abJ d e c.b t a s f (l b.out.Wt));obtain⟨r,o⟩:=y (eo a a.size 0 0 c.b);rw[<-o]at k|-;clear o;obtain⟨w,u⟩:=r;go_enter func174,ntmps174;go_wp2_with fail;refine k.out.mono ?_;rintro m x ⟨rfl,q,h⟩;go_wp2_with fail;go_ret2;exact Jw
def FR (a:Int)(h:28<=a)(i:a<=37)(b c:Nat)(e:G b)(f:G c)(d:D):
 O 264 #[j a,j b,j c] (j (co a b c)) d:=by
 have g:a=28\/a=29\/a=30\/a=31\/a=32\/a=33\/a=34\/a=35\/a=36\/a=37:=J;rcases g with rfl|rfl|rfl|rfl|rfl|rfl|rfl|rfl|rfl|rfl
 . exact ahM b c e f d
 . exact ahU b c e f d
 . exact ahP b c e f d
 . exact ahQ b c e f d
 . exact ahR b c e f d
 . exact ahV b c e f d
 . exact ahT b c e f d
 . exact ahS b c e f d
 . exact ahO b c e f d
 . exact ahN b c e f d
def agJ (a:Int)(h:42<=a)(i:a<=49)(b c:Nat)(e:G b)(f:G c)(d:D):
 O 266 #[j a,j b,j c] (j (co a b c)) d:=by
 have g:a=42\/a=43\/a=44\/a=45\/a=46\/a=47\/a=48\/a=49:=J;rcases g with rfl|rfl|rfl|rfl|rfl|rfl|rfl|rfl
 . exact agM b c e f d
 . exact agN b c e f d
 . exact agO b c e f d
 . exact agP b c e f d
 . exact agK b c e f d
 . exact agL b c e f d
 . exact agQ b c e f d
 . exact agR b c e f d
def Ps (a:Int)(e:19<=a)(f:a<=27)(b c:Nat):co (lk a) b c=co a b c/\28<=lk a/\lk a<=37:=by
 have d:a=19\/a=20\/a=21\/a=22\/a=23\/a=24\/a=25\/a=26\/a=27:=J;rcases d with rfl|rfl|rfl|rfl|rfl|rfl|rfl|rfl|rfl<;>exact⟨rfl,by decide,by decide⟩
def ee (a:Int):Int:=if a=11\/a=14\/a=16 then 1 else if a=12\/a=15\/a=17 then 2 else 4
def afz (b:Int)(d:D):
 O 268 #[j b] (j (ee b)) d:=by
 obtain⟨e,a⟩:=y (ee b);rw[<-a];unfold ee at a;have c:=l a;clear a;go_enter func268,ntmps268;exact pM
def re (a:Int):Int:=if a=50 then 1 else 2
def afM (b:Int)(d:D):
 O 272 #[j b] (j (re b)) d:=by
 obtain⟨e,a⟩:=y (re b);rw[<-a];unfold re at a;have c:=l a;clear a;go_enter func272,ntmps272;exact pM
def h1 (a:Int):Int:=if a=1 then 4 else 6
def afI (b:Int)(d:D):
 O 273 #[j b] (j (h1 b)) d:=by
 obtain⟨e,a⟩:=y (h1 b);rw[<-a];unfold h1 at a;have c:=l a;clear a;go_enter func273,ntmps273;exact pM
def a6 (a b:Int):Int:=if b=0 then(if a=1 then 12 else 1)else if b=1 then(if a=1 then 13 else 5)else(if a=1 then 15 else 7)
def ub (a c:Int)(f:D):
 O 274 #[j a,j c] (j (a6 a c)) f:=by
 obtain⟨h,b⟩:=y (a6 a c);rw[<-b];unfold a6 at b;have d:=l b;clear b;go_enter func274,ntmps274;go_wp2_with(go_at_call 347;refine(FB _ _ _ _).mono ?_;rintro i g ⟨rfl,rfl⟩);all_goals (go_ret;refine⟨eM ?_,rfl⟩;rw[d.out];simp_all<;>try(by_cases e:a=1<;>simp[e]))
def uf (a d:Int)(g:-1099511627776<=a)(h:a<=1099511627776)(e:D):
 O 340 #[j a,j d] (.bool (decide (d=4/\(a=33554432\/a=33570816\/a=33570820\/a=33603576\/a=33603580)))) e:=by
 obtain⟨f,b⟩:=y (decide (d=4/\(a=33554432\/a=33570816\/a=33570820\/a=33603576\/a=33603580)));rw[<-b];have c:=l b;clear b;go_enter func340,ntmps340;exact sn
def yq (a d:Int)(g:-1099511627776<=a)(h:a<=1099511627776)(e:D):
 O 342 #[j a,j d] (.bool (decide (d=1/\(a=268435456\/a=268435457\/a=268435458\/a=268435461\/a=268435463)))) e:=by
 obtain⟨f,b⟩:=y (decide (d=1/\(a=268435456\/a=268435457\/a=268435458\/a=268435461\/a=268435463)));rw[<-b];have c:=l b;clear b;go_enter func342,ntmps342;exact sn
def yr (a:Nat)(c:G a)(b:D):
 O 335 #[j a] (j ((a/1024*4096:Nat):Int)) b:=by
 go_enter func335,ntmps335;go_wp2_with fail;go_ret;exact⟨eM F,rfl⟩
def fC (a:Int)(d:D):
 O 192 #[j a] (.bool (decide (5<=a/\a<=10))) d:=by
 obtain⟨e,b⟩:=y (decide (5<=a/\a<=10));rw[<-b];have c:=l b;clear b;go_enter func192,ntmps192;exact sn
def bu (a:Int):Bool:=decide ((1<=a/\a<=4)\/(19<=a/\a<=37)\/(42<=a/\a<=49))
def gK (b:Int)(d:D):
 O 195 #[j b] (.bool (bu b)) d:=by
 obtain⟨e,a⟩:=y (bu b);rw[<-a];unfold bu at a;have c:=l a;clear a;go_enter func195,ntmps195;exact sn
def rf (a:Int):Int:=if a=68 then 4194304 else if a=69 then 2097152 else 1048576
def agn (b:Int)(d:D):
 O 281 #[j b] (j (rf b)) d:=by
 obtain⟨e,a⟩:=y (rf b);rw[<-a];unfold rf at a;have c:=l a;clear a;go_enter func281,ntmps281;exact pM
def ev (a:Int)(c b:Nat):Nat:=if a=62\/a=65 then c |||b else if a=63\/a=66 then aI c b else b
def tZ (e:Int)(b a:Nat)(h:G b)(i:G a)(f:D):
 O 280 #[j e,j b,j a] (j (ev e b a)) f:=by
 obtain⟨g,d⟩:=y (ev e b a);rw[<-d];unfold ev at d;have c:=l d;clear d;have k:=g7 b a m m;have n:=gr b a m m;go_enter func280,ntmps280;exact pM
def ef (a:Nat):Int:=if ct a 11 then 11 else if ct a 3 then 3 else if ct a 7 then 7 else if ct a 9 then 9 else if ct a 1 then 1 else if ct a 5 then 5 else -1
def FM (a:Nat)(B:G a)(d:D):
 O 127 #[j a] (j (ef a)) d:=by
 have f:∀k:Nat,Hid (O 187 #[j a,j k] (.bool (ct a k)) d):=fun k=>l (ud a k B d);have e:Hid (O 187 #[j a,j 11] (.bool (ct a 11)) d):=f 11;have g:Hid (O 187 #[j a,j 3] (.bool (ct a 3)) d):=f 3;have h:Hid (O 187 #[j a,j 7] (.bool (ct a 7)) d):=f 7;have i:Hid (O 187 #[j a,j 9] (.bool (ct a 9)) d):=f 9;have m:Hid (O 187 #[j a,j 1] (.bool (ct a 1)) d):=f 1;have n:Hid (O 187 #[j a,j 5] (.bool (ct a 5)) d):=f 5;unfold ef;obtain⟨v,p⟩:=y (ct a 11);obtain⟨w,q⟩:=y (ct a 3);obtain⟨z,s⟩:=y (ct a 7);obtain⟨A,t⟩:=y (ct a 9);obtain⟨u,o⟩:=y (ct a 1);obtain⟨x,r⟩:=y (ct a 5);rw[<-p]at e|-;rw[<-q]at g|-;rw[<-s]at h|-;rw[<-t]at i|-;rw[<-o]at m|-;rw[<-r]at n|-;clear p q s t o r f;cases v;case true=>
  go_enter oP,oQ;go_wp2_with fail;refine e.out.mono ?_;exact ex
 cases w;case true=>
  go_enter oP,oQ;go_wp2_with fail;refine e.out.mono ?_;rintro b c ⟨rfl,rfl⟩;go_wp2_with fail;refine g.out.mono ?_;exact ex
 cases z;case true=>
  go_enter oP,oQ;go_wp2_with fail;refine e.out.mono ?_;rintro b c ⟨rfl,rfl⟩;go_wp2_with fail;refine g.out.mono ?_;rintro b c ⟨rfl,rfl⟩;go_wp2_with fail;refine h.out.mono ?_;exact ex
 cases A;case true=>
  go_enter oP,oQ;go_wp2_with fail;refine e.out.mono ?_;rintro b c ⟨rfl,rfl⟩;go_wp2_with fail;refine g.out.mono ?_;rintro b c ⟨rfl,rfl⟩;go_wp2_with fail;refine h.out.mono ?_;rintro b c ⟨rfl,rfl⟩;go_wp2_with fail;refine i.out.mono ?_;exact ex
 cases u;case true=>
  go_enter oP,oQ;go_wp2_with fail;refine e.out.mono ?_;rintro b c ⟨rfl,rfl⟩;go_wp2_with fail;refine g.out.mono ?_;rintro b c ⟨rfl,rfl⟩;go_wp2_with fail;refine h.out.mono ?_;rintro b c ⟨rfl,rfl⟩;go_wp2_with fail;refine i.out.mono ?_;rintro b c ⟨rfl,rfl⟩;go_wp2_with fail;refine m.out.mono ?_;exact ex
 cases x;all_goals
  go_enter oP,oQ;go_wp2_with fail;refine e.out.mono ?_;rintro b c ⟨rfl,rfl⟩;go_wp2_with fail;refine g.out.mono ?_;rintro b c ⟨rfl,rfl⟩;go_wp2_with fail;refine h.out.mono ?_;rintro b c ⟨rfl,rfl⟩;go_wp2_with fail;refine i.out.mono ?_;rintro b c ⟨rfl,rfl⟩;go_wp2_with fail;refine m.out.mono ?_;rintro b c ⟨rfl,rfl⟩;go_wp2_with fail;refine n.out.mono ?_;exact ex
def ga (a b:Nat):Nat:=if 2147483648<=b/\¬a&&&1=0 then(aI a 3+4* (b-2147483648))%4294967296 else aI a 3
def FI (a c:Nat)(w:G a)(v:G c)(q:D):
 O 189 #[j a,j c] (j (ga a c)) q:=by
 have n:bits .andNot .i64 (a:Int) 3=((aI a 3:Nat):Int):=gr a 3 m m;have g:bits .and .i64 (a:Int) 1=((a&&&1:Nat):Int):=bl a 1 m m;have e:=fg (a&&&1);rw[<-g]at e;have o:=h0 a 3;obtain⟨t,b⟩:=y (ga a c);rw[<-b];unfold ga at b;obtain⟨h,hu⟩:=y (aI a 3);rw[<-hu]at b n o;have r:Hid (am (h:Int)=h):=l (yk h m);clear hu;by_cases f:2147483648<=c
 . by_cases d:a&&&1=0
   . rw[z (fun f=>f.2 d)]at b;have p:(bits .and .i64 (a:Int) 1 !=0)=false:=by rw[e,d];rfl
     subst b;clear e d g;exact JF
   . rw[B ⟨f,d⟩]at b;have p:(bits .and .i64 (a:Int) 1 !=0)=true:=by rw[e];rw[aU d];rfl
     have k:=l b;clear e d g b;go_enter func189,ntmps189;go_wp2_with(go_at_call 135;refine(e0 _ _).mono ?_;rintro u s ⟨rfl,rfl⟩);go_ret;exact⟨eM (by rw[k.out];unfold am;omega),rfl⟩
 . rw[z (fun i=>f i.1)]at b;subst b;have x:decide ((2147483648:Int)<=c)=false:=M;exact JF
def FJ (a:Nat)(h:G a)(f:D):
 O 376 #[j a] (.bool (decide (a&&&10=0))) f:=by
 have c:bits .and .i64 (a:Int) 10=((a&&&10:Nat):Int):=bl a 10 m m;have e:((((a&&&10:Nat)):Int)==0)=decide (a&&&10=0):=by by_cases d:a&&&10=0<;>simp[d]
 obtain⟨g,b⟩:=y (decide (a&&&10=0));rw[<-c,<-b]at e;rw[<-b];clear c b;go_enter func376,ntmps376;exact cm
def agH (a:Int)(k:52<=a)(n:a<=60)(b c:Nat)(o:G b)(q:G c)(i:D):
 O 349 #[j a,j b,j c] (j (co a b c)) i:=by
 have r:=BL b c m m;have s:=bl b c m m;have t:=g7 b c m m;have e:a=52\/a=53\/a=54\/a=55\/a=56\/a=57\/a=58\/a=59\/a=60:=J;have h:∀p:Prop,∀_:Decidable p,(bif decide p then(b:Int)else c)=((if p then b else c:Nat):Int):=by
  intro p _;by_cases e:p<;>simp[e]
 have d:=l h;clear h;rcases e with rfl|rfl|rfl|rfl|rfl|rfl|rfl|rfl|rfl;all_goals
  go_enter func349,ntmps349;go_wp2_with(first|(go_at_call 135;refine(e0 _ _).mono ?_;rintro g f ⟨rfl,rfl⟩)|(go_at_call 263;refine(ui _ rL _).mono ?_;rintro g f ⟨rfl,rfl⟩)|(go_at_call 347;refine(FB _ _ _ _).mono ?_;rintro g f ⟨rfl,rfl⟩));go_ret;refine⟨eM ?_,rfl⟩;try simp only[q6]
 . rfl
 . exact EN b c
 . rfl
 . rfl
 . rfl
 . exact d.out _ _
 . exact d.out _ _
 . exact d.out _ _
 . exact d.out _ _
section
attribute [local go_sem ↓] Go.wp_at_zero Go.wp_at_succ
def afq (k q e)(f:af e)(b a:Int)(i:a<=9223372036854775807)(g:a<0\/b<0\/(e.b.o.length:Int)-a<b)(l)(n:Hid (E l k q e)):
 O 111 #[I k,j b,j a] (.tuple #[.string ⟨#[]⟩,j 2]) l:=by
 have r:=n.out.V8;have h:=f.b.o;by_cases d:a<0
 . have o:decide (a<0)=true:=i3;clear g d i h f;exact vV
 have o:decide (a<0)=false:=M;by_cases c:b<0
 . have p:decide (b<0)=true:=eT;clear g d c i h f;exact vV
 have p:decide (b<0)=false:=M;have s:IntKind.i64.wrap ((e.b.o.length:Int)-a)=(e.b.o.length:Int)-a:=lO;have t:decide ((e.b.o.length:Int)-a<b)=true:=M;clear g d c h f i;exact vV
end
def nC :Bm:=⟨0,0,0,0,0,0,0,0,0,0,0,0,0,0,0,0,0,0,0,0,0,0,0⟩
def wX (a:N):N:={a with x:=List.replicate 32 0,V3:=2147483648,mode:=3,waits:=false,W9:=false,WU:=0}
def k3 (a:N):N:={b:=qc a.b,c:=nC,x:=List.replicate 32 0,V3:=2147483648,mode:=3,waits:=false,W9:=false,WU:=0}
def Cw :(prog.info? 67).map (·.size)=some 37:=by kernel_rfl
def RM :(prog.info? 71).map (·.size)=some 23:=by kernel_rfl
def Cx :(prog.info? 73).map (·.size)=some 5:=by kernel_rfl
def Cy :(prog.info? 75).map (·.size)=some 5:=by kernel_rfl
def s2 :List Value:=[j 0,j 0,j 0,j 0,j 0,j 0,j 0,j 0,j 0,j 0,j 0,j 0,j 0,j 0,j 0,j 0,j 0,j 0,j 0,j 0,j 0,j 0,j 0,j 0,j 0,j 0,j 0,j 0,j 0,j 0,j 0,j 0,j 2147483648,j 3,.bool false,.bool false,j 0]
def sR :List Value:=[j 0,j 0,j 0,j 0,j 0,j 0,j 0,j 0,j 0,j 0,j 0,j 0,j 0,j 0,j 0,j 0,j 0,j 0,j 0,j 0,j 0,j 0,j 0]
def tI :List Value:=[j 0,j 0,j 0,j 4294967295,j 4294967295]
def tl :List Value:=[j 0,j 0,.bool false,.string ⟨#[]⟩,.string ⟨#[]⟩]
def Fy (c j d e)(f:Hid (E e c j d)):
 an 35 #[I c] (.tuple #[]) [c] c j (k3 d) e:=by
 have g:=l (f.out.Xh (X':=wX d) 1 s2 rfl R rfl);have h:=l (g.out.Xh (X':={wX d with c:=nC}) 38 sR rfl R rfl);have i:=l (h.out.Xh (X':={wX d with c:=nC,b:={d.b with Wj:=0,time:=0,Wh:=0,cmp:=4294967295,Wv:=4294967295}}) 61 tI rfl R rfl);have m:=l (i.out.Xh (X':=k3 d) 66 tl rfl R rfl);have k:Hid (Kept [c] e ((((e.setCells c 1 s2).setCells c 38 sR).setCells c 61 tI).setCells c 66 tl)):=l (Kept.Xh _ (.inl F) _ _ _ (Kept.Xh _ (.inl F) _ _ _ (Kept.Xh _ (.inl F) _ _ _ (Kept.Xh _ (.inl F) _ _ _ (Kept.refl _ _)))));have t1:=l (f.out.YF 1 37 R);have t2:=l (g.out.YF 38 23 R);have t3:=l (h.out.YF 61 5 R);have t4:=l (i.out.YF 66 5 R);clear f g h i;go_enter func35,ntmps35;go_upto_region 0 with fail;refine gi ?_;refine wpList_plain rfl (fun b a=>?_);go_simp;refine a _ _ ?_;clear a b;refine wpList_plain rfl (fun b a=>?_);go_simp;refine a _ _ ?_;clear a b;refine wpList_plain rfl (fun b a=>?_);go_simp;refine a _ _ ?_;clear a b;refine wpList_plain rfl (fun b a=>?_);go_simp;refine a _ _ ?_;clear a b;refine gj rfl _ _ _ rfl c 1 s2.toArray rfl rfl t1.out (by rw[Cw];rfl) u1 ?_;refine gl ?_;go_upto_region 1 with fail;refine gi ?_;refine wpList_plain rfl (fun b a=>?_);go_simp;refine a _ _ ?_;clear a b;refine wpList_plain rfl (fun b a=>?_);go_simp;refine a _ _ ?_;clear a b;refine wpList_plain rfl (fun b a=>?_);go_simp;refine a _ _ ?_;clear a b;refine wpList_plain rfl (fun b a=>?_);go_simp;refine a _ _ ?_;clear a b;refine gj rfl _ _ _ rfl c 38 sR.toArray rfl rfl t2.out (by rw[RM];rfl) u1 ?_;refine gl ?_;go_upto_region 2 with fail;refine gi ?_;refine wpList_plain rfl (fun b a=>?_);go_simp;refine a _ _ ?_;clear a b;refine wpList_plain rfl (fun b a=>?_);go_simp;refine a _ _ ?_;clear a b;refine wpList_plain rfl (fun b a=>?_);go_simp;refine a _ _ ?_;clear a b;refine wpList_plain rfl (fun b a=>?_);go_simp;refine a _ _ ?_;clear a b;refine wpList_plain rfl (fun b a=>?_);go_simp;refine a _ _ ?_;clear a b;refine gj rfl _ _ _ rfl c 61 tI.toArray rfl rfl t3.out (by rw[Cx];rfl) u1 ?_;refine gl ?_;go_upto_region 3 with fail;refine gi ?_;refine wpList_plain rfl (fun b a=>?_);go_simp;refine a _ _ ?_;clear a b;refine wpList_plain rfl (fun b a=>?_);go_simp;refine a _ _ ?_;clear a b;refine wpList_plain rfl (fun b a=>?_);go_simp;refine a _ _ ?_;clear a b;refine wpList_plain rfl (fun b a=>?_);go_simp;refine a _ _ ?_;clear a b;refine gj rfl _ _ _ rfl c 66 tl.toArray rfl rfl t4.out (by rw[Cy];rfl) u1 ?_;refine gl ?_;go_wp2_with fail;go_end0;exact⟨rfl,m.out,k.out⟩
def qb (a:Nat):P:={o:=List.replicate a 0,Wj:=0,time:=0,Wh:=0,cmp:=0,Wv:=0,enable:=0,Wr:=0,lost:=false,rx:=⟨#[]⟩,Wc:=⟨#[]⟩}
def kX (a:Nat):N:={b:=qb a,c:=nC,x:=List.replicate 32 0,V3:=0,mode:=0,waits:=false,W9:=false,WU:=0}
def hN (a:Nat):N:=k3 (kX a)
def afn (a:Int)(b:a<0\/65536<a)(d:D):
 O 22 #[j a] (.tuple #[.pointer none,j 2]) d:=by
 rcases b with b|b
 . have c:decide (a<0)=true:=gZ;exact L7
 . have c:decide (a<0)=false:=M;have e:decide (a>65536)=true:=M;exact L7
def ml (b a:Nat):Obj:=.cells #[.slice (some ⟨b,0,none⟩) a a,j 0,j 0,j 0,j 0,j 0,j 0,j 0,j 0,j 0,j 0,j 0,j 0,j 0,j 0,j 0,j 0,j 0,j 0,j 0,j 0,j 0,j 0,j 0,j 0,j 0,j 0,j 0,j 0,j 0,j 0,j 0,j 0,j 0,j 0,.bool false,.bool false,j 0,j 0,j 0,j 0,j 0,j 0,j 0,j 0,j 0,j 0,j 0,j 0,j 0,j 0,j 0,j 0,j 0,j 0,j 0,j 0,j 0,j 0,j 0,j 0,j 0,j 0,j 0,j 0,j 0,j 0,j 0,.bool false,.string ⟨#[]⟩,.string ⟨#[]⟩] 77
def CU (b a:Nat):ml b a=.cells (cs b (kX a)).toArray 77:=by
 unfold ml cs kX qb nC;simp
def SQ (W:D)(a:Nat):E ((W.alloc (.cells (madeCells #[.int .u8 0] a) 5)).alloc (ml W.heap.size a)) (W.heap.size+1) W.heap.size (kX a):=by
 have o:Below (W.alloc (.cells (madeCells #[.int .u8 0] a) 5)).heap.size (W.alloc (.cells (madeCells #[.int .u8 0] a) 5)) ((W.alloc (.cells (madeCells #[.int .u8 0] a) 5)).alloc (ml W.heap.size a)):=lT;have f:∀c,c<a->(W.alloc (.cells (madeCells #[.int .u8 0] a) 5)).cell? ⟨W.heap.size,c,none⟩=some (.int .u8 0):=by
  intro c d;simp[madeCells,d,rl]
 have x:∀b,(W.alloc (.cells (madeCells #[.int .u8 0] a) 5)).frozen? ⟨W.heap.size,b,none⟩=false:=by intro b;simp
 refine⟨fun h g=>?_,fun b=>?_,?_,fun c d=>?_,fun b=>?_,?_,?_⟩
 . rw[CU];simp
 . rw[CU];simp
 . simp
 . have e:c<a:=by simpa[kX,qb]using d
   rw[o.cell (p:=⟨W.heap.size,c,none⟩) (by simp),f c e];simp[kX,qb]
 . exact Jn
 . simp;omega
 . omega
def Fx (a:Nat)(C:a<=65536)(W:D):
 Calls prog 22 #[j a] W fun n c=>n=.returned (.tuple #[.pointer (some ⟨W.heap.size+1,0,none⟩),j 0])/\E c (W.heap.size+1) W.heap.size (hN a)/\Kept [] W c:=by
 obtain⟨z,u,x,e,k⟩:=hx Tryz.Yu;have A:decide ((a:Int)<0)=false:=bL;have B:decide (65536< (a:Int))=false:=M;have w:∀f,(Instr.makeSlice 64 (.int .i64 (a:Int)) (.int .i64 (a:Int))).run prog f=.ok (.slice (some ⟨f.heap.size,0,none⟩) a a) (f.alloc (.cells (madeCells #[.int .u8 0] a) 5)):=by
  intro f;have o:=uD (P:=prog) f 64 5 z (.int .u8 0) gP u x .i64 .i64 a a m (jx _) uR uS m;rw[e]at o;simpa[Value.cells]using o
 obtain⟨s,q⟩:=y (Obj.cells (madeCells #[.int .u8 0] a) 5);have g:=SQ W a;rw[<-q]at g w;have i:=l (Fy (W.heap.size+1) W.heap.size _ _ (l g));have b:Hid (Kept [] W ((W.alloc s).alloc (ml W.heap.size a))):=l (((Kept.refl _ _).alloc _).alloc _);have h:Hid (∀c,Kept [W.heap.size+1] ((W.alloc s).alloc (ml W.heap.size a)) c->Kept [] W c):=l (fun c d=>⟨d.os.trans b.out.os,d.tape.trans b.out.tape,d.output.trans b.out.output,fD b.out.size d.size,fun r p _=>(d.block r (aQ p b.out.size) ad).trans (b.out.block r p F)⟩);unfold ml at i h;unfold hN;clear g b q;go_enter func22,ntmps22;go_wp2_with fail;refine i.out.mono ?_;rintro n G ⟨rfl,t,v⟩;go_wp2_with fail;go_ret2;exact⟨rfl,t,h.out _ v⟩
end Go.Proofs.YtmlgonbhoknoiabGreatDoor
