import Derived.Test.YtmlgonbhoknoiabGreatDoorJBJ
import Derived.Test.YtmlgonbhoknoiabGreatDoorJBN
set_option maxHeartbeats 8000000
set_option maxRecDepth 100000
set_option linter.all false
namespace Go.Proofs.YtmlgonbhoknoiabGreatDoor
open Go.RowKit Go.Proofs.Tryz
section
attribute [local go_sem ↓] Go.wp_at_zero Go.wp_at_succ
theorem ap.laid {g f:Nat}:∀(c:List L) (a:Nat) {b:P} {d:D},ap d g f b->a+c.length<=b.o.length->ap (d.setCells f a (dr c)) g f {b with o:=laidB b.o a c}
 |[],a,b,d,e,_=>e
 |i::c,a,b,d,e,h=>by
  have j:=e.Xn a (by simp at h;omega) i
  have k:=ap.laid c (a+1) j (by simp at h|-;omega)
  exact k
def P7 (b:D)(a:P)(c n k:Nat):ap ((b.alloc (.cells #[.slice (some ⟨b.heap.size+1,0,none⟩) c c,j a.Wj,j a.time,j a.Wh,j a.cmp,j a.Wv,j a.enable,j a.Wr,.bool a.lost,.string a.rx,.string a.Wc] n)).alloc (.cells (madeCells #[.int .u8 0] c) k)) b.heap.size (b.heap.size+1) {a with o:=List.replicate c 0}:=by
 obtain⟨f,h⟩:=y (b.alloc (.cells #[.slice (some ⟨b.heap.size+1,0,none⟩) c c,j a.Wj,j a.time,j a.Wh,j a.cmp,j a.Wv,j a.enable,j a.Wr,.bool a.lost,.string a.rx,.string a.Wc] n));have o:f.heap.size=b.heap.size+1:=by rw[h];simp
 have q:∀e,f.cell? ⟨b.heap.size,e,none⟩=(#[.slice (some ⟨b.heap.size+1,0,none⟩) c c,j a.Wj,j a.time,j a.Wh,j a.cmp,j a.Wv,j a.enable,j a.Wr,.bool a.lost,.string a.rx,.string a.Wc]:Array Value)[e]?:=fun e=>by rw[h];exact fJ _ _ _ _ _ rfl
 have r:dX f b.heap.size:=fun i=>by rw[h];exact fo _ _ _ _ _ rfl
 rw[<-h];have m:Kept [] f (f.alloc (.cells (madeCells #[.int .u8 0] c) k)):=dC;have l:b.heap.size<f.heap.size:=J;have d:∀e,(f.alloc (.cells (madeCells #[.int .u8 0] c) k)).cell? ⟨b.heap.size,e,none⟩=(#[.slice (some ⟨b.heap.size+1,0,none⟩) c c,j a.Wj,j a.time,j a.Wh,j a.cmp,j a.Wv,j a.enable,j a.Wr,.bool a.lost,.string a.rx,.string a.Wc]:Array Value)[e]?:=fun e=>(m.cell l F).trans (q e);refine⟨?_,d 1,d 2,d 3,d 4,d 5,d 6,d 7,d 8,d 9,d 10,fun i=>(m.frozen (p:=⟨b.heap.size,i,none⟩) l F).trans (r i),aQ l m.size,fun s g=>?_,fun i=>?_,?_,by omega⟩
 . rw[d 0];simp
 . have p:s<c:=pR;rw[<-o,fJ _ _ _ _ _ rfl];simp[madeCells,p,rl]
 . rw[<-o];exact fo _ _ _ _ _ rfl
 . simp;omega
def ach (v t:Nat)(b:P)(Q:b.o.length<=65536)(a:D)(n:Hid (ap a v t b)):
 Calls prog 168 #[I v] a fun R u=>R=.returned (I a.heap.size)/\ap u a.heap.size (a.heap.size+1) b/\Kept [] a u:=by
 have h:=n.out;obtain⟨w,c1,c2,c3,c4,c5,L,M,N,O,K,-,U,-,-,-,-⟩:=id h;clear h;obtain⟨G,z,E,e,k⟩:=hx Tryz.Yu;obtain⟨c,r⟩:=y (b.o.length);rw[<-r]at Q w;have A:∀a,(Instr.makeSlice 64 (.int .i64 (c:Int)) (.int .i64 (c:Int))).run prog a=.ok (.slice (some ⟨a.heap.size,0,none⟩) c c) (a.alloc (.cells (madeCells #[.int .u8 0] c) 5)):=by
  intro a;have h:=uD (P:=prog) a 64 5 G (.int .u8 0) gP z E .i64 .i64 c c m (jx _) uR uS m;rw[e]at h;simpa[Value.cells]using h
 clear z E e k G;obtain⟨S,s⟩:=y (Obj.cells (madeCells #[.int .u8 0] c) 5);rw[<-s]at A;have g:=l (P7 a b c 217 5);rw[<-s]at g;clear s;have d:=l r;clear r;go_enter func168,ntmps168;go_upto_region 3 with fail;obtain⟨w3,o⟩:=y ((a.alloc (.cells #[.slice (some ⟨a.heap.size+1,0,none⟩) c c,j b.Wj,j b.time,j b.Wh,j b.cmp,j b.Wv,j b.enable,j b.Wr,.bool b.lost,.string b.rx,.string b.Wc] 217)).alloc S);rw[<-o];rw[<-o]at g;have i:Kept [] a w3:=by rw[o];exact((Kept.refl _ _).alloc _).alloc _
 have p:=g.out.more (Kept.refl [] w3).drew F F;have C:=n.out.more i.drew F F;clear o;have T:(Builtin.copy_ #[64,64] 3 #[.slice (some ⟨a.heap.size+1,0,none⟩) c c,.slice (some ⟨t,0,none⟩) c c]).run prog w3.drew=.ok (.int .i64 c) (w3.drew.setCells (a.heap.size+1) 0 (dr b.o)):=by
  have:=yQ (P:=prog) w3.drew 64 64 3 5 (a.heap.size+1) 0 c c ⟨t,0,none⟩ c c (dr b.o) gP w5 (by rw[jd,<-d.out];exact(Nat.min_self c).symm) ?_ ?_ ?_ ?_
  . rw[this,jd,<-d.out];rfl
  . intro q V B;have f:=(oL.1 B).1;rw[jd]at f;rw[uE,eg,C.o q f,<-B];simp[dr,f]
  . intro q f;rw[jd,<-d.out]at f;rw[eg,p.o q (by simpa using f)];rfl
  . intro q _;exact p.XA _
  . exact L8
 have H:Hid (ap (w3.drew.setCells (a.heap.size+1) 0 (dr b.o)) a.heap.size (a.heap.size+1) b):=by
  have x:=ap.laid b.o 0 p (by simp[<-d.out]);rw[xc b.o _ 0 (by simp[<-d.out])]at x;exact l x
 have J:Hid (Kept [] a (w3.drew.setCells (a.heap.size+1) 0 (dr b.o))):=l (Kept.Xh _ (.inr m) _ _ _ i.drew);have d0:=(n.out.more i F F).V8;rw[<-d.out]at d0;have f0:=g.out.V8;simp only[List.length_replicate]at f0;clear p C i g w c1 c2 c3 c4 c5 L M N O K n d A;go_region;all_goals
  go_wp2_with fail;go_ret;exact⟨rfl,H.out,J.out⟩
def jY (b:List Nat):List Value:=b.map fun(a:Nat)=>j (a:Int)
def qj (a:List Nat):(jY a).length=a.length:=by simp[jY]
def RN :(prog.info? 3).map (·.size)=some 1:=by kernel_rfl
def adH (x t M A T:Nat)(b:ai)(Y:b.b.o.length<=65536)(c:D)(q:Hid (V c x t M A T b)):
 Calls prog 123 #[I x] c fun W G=>(∃r B C H E,W=.returned (.pointer (some ⟨r,0,none⟩))/\c.heap.size<=r/\c.heap.size<=B/\c.heap.size<=C/\c.heap.size<=H/\c.heap.size<=E/\V G r B C H E b)/\Kept [] c G:=by
 have ar:=xl;have ae:=q.out.V8;have ao:=q.out.lt;have K:=l (ach t T b.b Y c (l q.out.Wt));go_enter func123,ntmps123;go_wp2_with fail;refine K.out.mono ?_;rintro S z ⟨rfl,N,v⟩;clear K;have n:=l (q.out.kept v);have d1:=n.out.c1;have ap:=n.out.lt;have L:=l (acs M t c.heap.size b.f z (l n.out.WW));have p:=l N;have s:=l v;clear N v;go_wp2_with fail;refine L.out.mono ?_;rintro S a ⟨rfl,u,i⟩;clear L;have e:=l (n.out.kept i);have af:=e.out.c2;have ag:=e.out.c3;have ah:=e.out.c4;have aj:=e.out.c5;have aq:=e.out.lt;have ad:¬x=a.heap.size:=J;have au:=p.out.lt;have av:=p.out.Ww;have aw:=u.lt;have ax:=s.out.size;have ay:=i.size;have R:Kept [] a (a.alloc (.cells gM 3)):=dC;have m:b.x.length=32:=e.out.XD;have Z:(Builtin.copy_ #[24,24] 3 #[.slice (some ⟨a.heap.size,0,none⟩) 32 32,.slice (some ⟨A,0,none⟩) 32 32]).run prog (a.alloc (.cells gM 3))=.ok (.int .i64 32) ((a.alloc (.cells gM 3)).setCells a.heap.size 0 (jY b.x)):=by
  have h:=e.out.kept R;have:=yQ (P:=prog) (a.alloc (.cells gM 3)) 24 24 3 3 a.heap.size 0 32 32 ⟨A,0,none⟩ 32 32 (jY b.x) Tryz.underlying24 RN (by rw[qj,m];rfl) ?_ ?_ ?_ ?_
  . rw[this,qj,m];rfl
  . intro d ac o;have f:=(oL.1 o).1;rw[qj]at f;rw[uE,eg,h.cq d f,<-o];simp[jY,f]
  . intro d f;rw[qj,m]at f;rw[eg,fJ _ _ _ _ _ rfl,yx d f];rfl
  . intro d _;exact fo _ _ _ _ _ rfl
  . intro ac o;simp[jY]at o;exact ajF
 obtain⟨w3,g⟩:=y ((a.alloc (.cells gM 3)).setCells a.heap.size 0 (jY b.x));rw[<-g]at Z;have k:Kept [] a w3:=by rw[g];exact Kept.Xh _ (.inr (aB _)) _ _ _ ((Kept.refl _ _).alloc _)
 have Q:w3.heap.size=a.heap.size+1:=by rw[g,mw];simp
 have P:∀d (an:d<b.x.length),w3.cell? ⟨a.heap.size,d,none⟩=some (j b.x[d]):=by
  intro d f;have aa:=kf (a.alloc (.cells gM 3)) a.heap.size 0 (jY b.x) (by rw[qj,m];exact ws a gM 3);have:=aa d (j b.x[d]) (by simp[jY,f]);rw[eg]at this;rw[g];exact this
 have O:dX w3 a.heap.size:=fun S=>by rw[g,ut];exact fo _ _ _ _ _ rfl
 clear g;have w:Kept [] w3 w3.drew:=(Kept.refl _ _).drew;have X:=l (V.box (w:=w3.drew) (bb:=c.heap.size) (rb:=c.heap.size+1) (fb:=z.heap.size) (xb:=a.heap.size) (B:=b.b) (C:=b.f) (x:=b.x) (((p.out.more i F F).more k F F).more w F F) ((u.more k F).more w F) m P O (by show _<w3.heap.size;omega) (by
  simp only[gR,dB,eR,eS,gh,iS,gf,uN];exact⟨⟨by omega,by omega,by omega⟩,⟨by omega,by omega⟩,by omega⟩) b.V3 b.res b.wait 187)
 have ab:Hid (Kept [] c w3):=l ((s.out.trans i).trans k);have h:=e.out.kept k;have ak:=h.c3;have al:=h.c4;have am:=h.c5;have U:=l Q;clear k Q P O w h u i R p s n e;go_upto_region 5 with fail;go_region;all_goals
  go_wp2_with fail;go_ret;refine⟨⟨w3.heap.size,c.heap.size,z.heap.size,a.heap.size,c.heap.size+1,rfl,?_,?_,?_,?_,?_,X.out⟩,ab.out.drew.alloc _⟩
  . have:=U.out;omega
  all_goals omega
end
def kR (a:aC):List Value:=[.string ⟨a.Xz.toArray⟩,j a.i.op,j a.i.op,j a.i.rd,j a.i.V1,j a.i.V6,j a.i.V2,j a.i.V4,.string ⟨a.Xa.toArray⟩,j a.i.V4]
def gw (a:List aC):List Value:=a.flatMap kR
def RR (a:List aC)(b:aC):gw (a++[b])=gw a++kR b:=by simp[gw]
theorem CF :∀(a:List aC) (c:Nat) (e:c<a.length) (b:Nat),b<10->(gw a)[c*10+b]?=(kR a[c])[b]?
 |[],c,e,b,f=>by simp at e
 |d::a,0,e,b,f=>by
  have:gw (d::a)=kR d++gw a:=by simp[gw]
  rw[this,o6,eg,ur (by simp[kR];omega)];rfl
 |d::a,c+1,e,b,f=>by
  have:gw (d::a)=kR d++gw a:=by simp[gw]
  have g:(kR d).length=10:=rfl
  rw[this,us (by rw[g];omega),g,show(c+1)*10+b-10=c*10+b by omega,CF a c (by simpa using e) b f];rfl
def RU {e:D}{i:Nat}{h:Value}{b:List aC}(j:e.ownsRow i 178 10 h b.length (gw b))(p:h≠ .slice none 0 0):
 ∃g f,h=.slice (some ⟨g,0,none⟩) b.length f/\i<=g/\g<e.heap.size/\g1 e (some ⟨g,0,none⟩) b:=by
 rcases j.2 with⟨q,_⟩|⟨g,f,r,rfl,k,n,s⟩
 . exact absurd q p
 . refine⟨g,f,rfl,k,(rm.1 n).1,.inr ⟨g,rfl,fun d o=>?_⟩⟩;have a:∀c,c<10->e.cell? ⟨g,d*10+c,none⟩=(kR b[d])[c]?:=fun c l=>by rw[j.cellAt (d*10+c) (by omega),CF b d o c l]
   exact⟨a 0 m,a 1 m,a 2 m,a 3 m,a 4 m,a 5 m,a 6 m,a 7 m,a 8 m,a 9 m⟩
theorem tB :∀(a b:List L),(u.bN b a).length=1+u.hO a
 |[],b=>by simp[u.bN,u.hO]
 |c::a,b=>by
  simp only[u.bN,u.hO]
  split
  . rw[c6,tB a []];omega
  . rw[tB a];omega
theorem xP :∀(b d:List L),∀c∈u.bN d b,c.length<=d.length+b.length
 |[],d,c,a=>by simp only[u.bN,yW]at a;rw[a];omega
 |e::b,d,c,a=>by
  simp only[u.bN]at a
  split at a
  . rcases dB.1 a with rfl|a
    . omega
    . have:=xP b [] c a;simp only[c6,yY]at this|-;omega
  . have:=xP b _ c a;simp only[mO,c6,yY]at this|-;omega
def u.fin (a:List aC×Int×Nat):List L×Int×Nat:=if a.2.1=0 then u.lay a.1 a.1 0 []else([],a.2.1,a.2.2)
def u.X0 (a:List aC)(b:List (List L)):List L×Int×Nat:=u.fin (u.readAll a b)
def PL (a:List aC):u.X0 a []=u.lay a a 0 []:=by
 show u.fin (a,0,0)=_;unfold u.fin;exact B rfl
def PN {b:List aC}{a:List L}{c:List (List L)}(e:(u.cl (u.tok a.length a) b).1=0):u.X0 b (a::c)=u.X0 (b++[(u.cl (u.tok a.length a) b).2]) c:=by
 have d:u.readAll b (a::c)=u.readAll (b++[(u.cl (u.tok a.length a) b).2]) c:=by rw[u.readAll,B e]
 unfold u.X0;rw[d]
def PM {b:List aC}{a:List L}{d:List (List L)}(c:¬(u.cl (u.tok a.length a) b).1=0):u.X0 b (a::d)=([],(u.cl (u.tok a.length a) b).1,b.length+1):=by
 have e:u.readAll b (a::d)=([],(u.cl (u.tok a.length a) b).1,b.length+1):=by rw[u.readAll,z c]
 unfold u.X0;rw[e];unfold u.fin;exact z c
def aaa {c:List aC}(d:∀b∈c,kr b):Tidy c:=fun b e=>by
 rcases(d b e).ZV with⟨_,a,_⟩|⟨_,_,a⟩|⟨_,a,_⟩|⟨_,a,_⟩<;>omega
theorem aag (p:K)(q:D):
 ac 120 #[.string p] (.tuple #[u.aG (u.g5 p.data.toList).1,j (u.g5 p.data.toList).2.1,j (u.g5 p.data.toList).2.2]) q:=by
 obtain⟨n,o⟩:=y (u.g5 p.data.toList);rw[<-o];unfold u.g5 at o;have aR:p.data.toList.length=p.size:=vr;rw[aR]at o;by_cases aD:4096<p.size
 . rw[B aD]at o;have bJ:decide (4096< (p.size:Int))=true:=M;have HR:=l o;clear o;go_enter func120,ntmps120;go_wp2_with fail;exact A4
 rw[z aD]at o;have bJ:decide (4096< (p.size:Int))=false:=M;have C:=aao p m q;have H:=tB p.data.toList [];have aO:=xP p.data.toList [];obtain⟨e,a9⟩:=y (u.bN [] p.data.toList);rw[<-a9]at C H aO o;rw[<-H]at o;have au:=l (C.mono fun Q r x=>(by
  obtain⟨Z,bV,bo,S,A⟩:=x;obtain⟨G,U,rfl,aD,af,bP⟩:=bb.Y0 S bo;exact⟨G,U,bV,af,l bP,A⟩:∃G U,Q=.returned (.slice (some ⟨G,0,none⟩) e.length U)/\G<r.heap.size/\Hid (bb r G 0 e)/\Below q.heap.size q r))
 have a2:Hid (∀aV∈e,aV.length<=4096):=l (fun aV b1=>by have:=aO aV b1;rw[aR]at this;simp at this;omega);have b9:e.length<=4097:=by rw[H];have:=u.C1 p.data.toList;omega
 clear C a9 H aO aR;by_cases af:256<e.length
 . rw[B af]at o;have bK:decide (256< (e.length:Int))=true:=M;have HR:=l o;clear o;go_enter func120,ntmps120;go_wp2_with fail;refine au.out.mono ?_;rintro Q r ⟨G,U,rfl,A,aP,V⟩;go_wp2_with fail;go_ret3;exact⟨by rw[HR.out];rfl,V⟩
 rw[z af]at o;have bK:decide (256< (e.length:Int))=false:=M;have HR:Hid (n=u.X0 [] e):=o;clear o;have bY:∀q,(Instr.buildSlice 176 0 #[]).run prog q=.ok (.slice (some ⟨q.heap.size,0,none⟩) 0 0) (q.alloc (.cells #[] 178)):=fun _=>by kernel_rfl
 have bl:(prog.info? 178).map (fun i=>(i.zero,i.size,i.bytes))=some (some (bC ⟨#[]⟩ aF ⟨#[]⟩),10,96):=gX;obtain⟨b2,bk,bA,bB,bD⟩:=hx bl;clear bl;go_enter func120,ntmps120;go_wp2_with fail;refine au.out.mono ?_;rintro Q r ⟨G,U,rfl,bU,aP,V⟩;have ap:=l V;have aS:=V.size;clear au V;go_wp2_with fail;go_loopw [6,7] (fun Z aU wr=>∃(c:Nat) (a:List aC),c<=e.length/\Hid (a.length=c)/\aU=j c/\Z≠ .slice none 0 0/\Hid (wr.ownsRow r.heap.size 178 10 Z a.length (gw a))/\Hid (Below r.heap.size r wr)/\Hid (∀v∈a,kr v)/\Hid (n=u.X0 a (e.drop c))) (fun _ aU _=>e.length- (intOf aU).toNat);case atStart=>exact⟨0,[],by omega,l rfl,rfl,by simp,l (rI r _ 0 (aB _) gp rfl),l ((aq _ _).alloc (aB _) _),l F,HR⟩
 case round=>
  obtain⟨c,a,cc,ag,rfl,bp,S,A,X,k⟩:=hrel;clear HR bY;have bQ:a.length<=5000:=by have:=ag.out;omega
  obtain⟨g,ay,rfl,cb,aL,bm⟩:=RU S.out bp;have ar:=l bm;clear bm;have bg:=A.out.size;by_cases aN:c<e.length
  . have bx:=bb.more aP bU A.out;have a6:=bx.out c aN;obtain⟨h,aH⟩:=y (⟨e[c].toArray⟩:K);have d0:wr.cell? ⟨G,c,none⟩=some (.string h):=by rw[<-eg c,a6,aH];rfl
    have aI:h.data.toList=e[c]:=by rw[aH]
    have ah:h.size=e[c].length:=by rw[<-aI,dP];rfl
    have bd:h.size<=4096:=by rw[ah];exact a2.out _ (gd aN)
    have al:=aaA (some ⟨g,0,none⟩) ay a m h bd wr ar (l (fun a5 x=>by simp only[b5]at x;rw[<-x];exact aL));have bh:e.drop c=e[c]::e.drop (c+1):=jv aN;rw[bh]at k;rw[ah,aI]at al;obtain⟨a3,ai⟩:=y (u.cl (u.tok e[c].length e[c]) a);have bf:kr a3.2:=by rw[ai];exact Ur _ _
    rw[<-ai]at al;have a0:=l al;have I:=l ai;have ax:=l bf;clear al ai bf bh aH aI ah bd a6 bx;obtain⟨w,v⟩:=a3;go_wp2_with fail;refine a0.out.mono ?_;rintro Q ce ⟨⟨bM,s,bN,rfl,aK⟩,aJ⟩;have aa:=l (A.out.trans (aJ.mono A.out.size));have aZ:=l (xt S.out aJ);have cd:=aa.out.size;unfold bC;clear a0 aJ A S d0 ar;by_cases b:w=0
    . have am:(w !=0)=false:=gV;have aj:Hid (n=u.X0 (a++[v]) (e.drop (c+1))):=by
       show n=_;have az:(u.cl (u.tok e[c].length e[c]) a).1=0:=by rw[<-I.out];exact b
       have aA:(u.cl (u.tok e[c].length e[c]) a).2=v:=vs;rw[k.out,PN az,aA]
      have bn:Hid (∀aW∈a++[v],kr aW):=l (fun aW T=>by
       rcases List.mem_append.1 T with T|T
       . exact X.out aW T
       . rw[yW]at T;rw[T];exact ax.out)
      have bi:=aK.out b;have aY:=l bi;have bt:∀s,(Value.slice (some ⟨g,0,none⟩) a.length ay).ownBlock=some s->r.heap.size<=s:=fun s bW=>by
       simp only[Value.ownBlock,b5]at bW;omega
      have bL:=l bt;clear bt bi aK k b I ax X;go_wp2_with(at_builtin;refine ke _ rfl (.tmp 43) (.tmp 45) 176 rfl r.heap.size 178 b2 (bC ⟨#[]⟩ aF ⟨#[]⟩) 10 96 Tryz.underlying176 bk bA bB bD rfl R _ _ _ rfl ((aZ.out.alloc _).alloc _) ⟨_,0,none⟩ 1 1 [.string bM,j s.op,j s.op,j s.rd,j s.V1,j s.V6,j s.V2,j s.V4,.string bN,j s.V4] rfl rfl ?c1 ?c2 ?c3 ?c4 ?c5 ?_);case c1=>
       intro bE b3 d;match bE,d with
       |0,d=>simp at d;subst d;simp[Addr.add]
       |1,d=>simp at d;subst d;simp[Addr.add]
       |2,d=>simp at d;subst d;simp[Addr.add]
       |3,d=>simp at d;subst d;simp[Addr.add]
       |4,d=>simp at d;subst d;simp[Addr.add]
       |5,d=>simp at d;subst d;simp[Addr.add]
       |6,d=>simp at d;subst d;simp[Addr.add]
       |7,d=>simp at d;subst d;simp[Addr.add]
       |8,d=>simp at d;subst d;simp[Addr.add]
       |9,d=>simp at d;subst d;simp[Addr.add]
       |bE+10,d=>simp at d
      case c2=>intro b3 hu;simp at hu;rcases hu with rfl|rfl|rfl|rfl|rfl|rfl|rfl|rfl|rfl|rfl<;>rfl
      case c3=>exact gp
      case c4=>omega
      case c5=>simp;omega
      intro ao w3 an bj t;have aX:ao≠ .slice none 0 0:=pt;have bu:=l (((aa.out.alloc m _).alloc ad _).grown bj ad bL.out);clear t bj aZ aa;obtain⟨bG,bH,bI⟩:=aY.out;have bq:Hid (w3.ownsRow r.heap.size 178 10 ao (a++[v]).length (gw (a++[v]))):=by
       show w3.ownsRow r.heap.size 178 10 ao (a++[v]).length (gw (a++[v]));rw[RR,mO];rw[bG,bH,bI]at an;exact an
      clear an bG bH bI aY;go_wp2_with fail;go_roundw;case rel=>
       first
        |exact⟨c+1,a++[v],by omega,l (by have:=ag.out;simp;omega),by go_num,aX,bq,bu,bn,aj⟩
        | ((repeat apply hB);exact⟨⟨c+1,a++[v],by omega,l (by have:=ag.out;simp;omega),by go_num,aX,bq,bu,bn,aj⟩,rfl⟩)
      case measure=>exact a4
    . have am:(w !=0)=true:=gV;have aj:Hid (n=([],w,c+1)):=by
       show n=_;have az:¬(u.cl (u.tok e[c].length e[c]) a).1=0:=by rw[<-I.out];exact b
       have aA:(u.cl (u.tok e[c].length e[c]) a).1=w:=vs;rw[k.out,PM az,aA,ag.out]
      clear aK k b I ax X;go_wp2_with fail;go_ret3;exact⟨by rw[aj.out];rfl,(ap.out.trans (aa.out.mono aS)).alloc m _⟩
  . have b8:decide ((c:Int)< (e.length:Int))=false:=M;have a1:Hid (n=u.lay a (a.drop 0) 0 (⟨#[]⟩:K).data.toList):=by
     show n=_;rw[k.out,eQ (by omega),PL];rfl
    rename D=>bF;have aw:=l (aaa X.out);clear k bp S aP a2 bk bA bB bD;go_wp2_with fail;go_loopw [10,11] (fun Z aT b6=>∃(c:Nat) (h:K),c<=a.length/\h.size<=4*c/\Z=.string h/\aT=j c/\Hid (h.data.toList.length=(u.place a c).toNat)/\Hid (Below bF.heap.size bF b6)/\Hid (n=u.lay a (a.drop c) c h.data.toList)) (fun _ aT _=>a.length- (intOf aT).toNat);case atStart=>exact⟨0,⟨#[]⟩,by omega,by decide,rfl,rfl,l (by cases a<;>rfl),l (aq _ _),a1⟩
    case round=>
     obtain⟨f,h,bo,ah,rfl,rfl,be,O,k⟩:=hrel;clear a1;by_cases C:f<a.length
     . have aM:=aaM (some ⟨g,0,none⟩) ay a bQ aw f C (X.out _ (gd C)) wr (l (ar.out.below O.out (fun a5 x=>by simp only[b5]at x;rw[<-x];exact aL))) (l (fun a5 x=>by simp only[b5]at x;rw[<-x];exact aQ aL O.out.size));rw[St C,be.out]at k;have H:=Vu (L:=a) (l:=a[f]) (n:=(u.place a f).toNat);have bs:=xv a f C;have br:=mn a f aw.out;have bz:=aw.out a[f] (gd C);obtain⟨bO,bc⟩:=y (u.Xe a a[f] (u.place a f).toNat);rw[<-bc]at aM k H;have N:=l aM;have av:=l (cW H (cW bs (cW br bz)));clear aM bc H bs br bz;obtain⟨Y,w⟩:=bO;obtain⟨P,aG⟩:=y (⟨Y.toArray⟩:K);have ba:P.data.toList=Y:=by rw[aG]
       have ae:=l ba;clear ba;unfold u.aG at N;simp only at N;rw[<-aG]at N;have bR:P.size=Y.length:=by rw[<-ae.out,dP];rfl
       clear aG;by_cases b:w=0
       . have am:(w !=0)=false:=gV;obtain⟨bv,bw,bZ,b0⟩:=av.out;have bX:(Y.length:Int)=a[f].i.V4:=by rw[bv b];omega
         have bS:P.size<=4:=J;obtain⟨E,L⟩:=y (h++P);have ca:∀q,(Op.stringOp .add h P).run prog q=.ok (.string E) q:=fun q=>ea (a:=h) (b:=P) (c:=E) L.symm m q;have a8:E.size<=4* (f+1):=HY;have aE:E.data.toList=h.data.toList++Y:=by rw[L,BI,ae.out]
         have a7:Hid (E.data.toList.length=(u.place a (f+1)).toNat):=by
          show _=_;rw[aE,mO,be.out,bw];omega
         have ak:Hid (n=u.lay a (a.drop (f+1)) (f+1) E.data.toList):=by
          show n=_;rw[k.out,B b,aE]
         clear k L aE bv bw bZ b0 av bX b bR bS ae;go_wp2_with fail;refine N.out.mono ?_;rintro Q b4 ⟨rfl,W⟩;have ab:=l (O.out.trans (W.mono O.out.size));clear N W;go_wp2_with fail;go_roundw;case rel=>
          first
           |exact⟨f+1,E,by omega,a8,rfl,by go_num,a7,ab,ak⟩
           | ((repeat apply hB);exact⟨⟨f+1,E,by omega,a8,rfl,by go_num,a7,ab,ak⟩,rfl⟩)
         case measure=>exact a4
       . have am:(w !=0)=true:=gV;have ak:Hid (n=([],w,f+1)):=by
          show n=_;rw[k.out,z b]
         clear k b av ae;go_wp2_with fail;refine N.out.mono ?_;rintro Q b4 ⟨rfl,W⟩;have ab:=l (O.out.trans (W.mono O.out.size));clear N W;go_wp2_with fail;go_ret3;exact⟨by rw[ak.out];rfl,ap.out.trans ((A.out.trans (ab.out.mono bg)).mono aS)⟩
     . have bT:Hid (n=(h.data.toList,0,0)):=by
        show n=_;rw[k.out,eQ (by omega)];rfl
       have b7:decide ((f:Int)< (a.length:Int))=false:=M;clear k;go_wp2_with fail;go_ret3;exact⟨by rw[bT.out];unfold u.aG;simp only[he];rfl,ap.out.trans ((A.out.trans (O.out.mono bg)).mono aS)⟩
end Go.Proofs.YtmlgonbhoknoiabGreatDoor
