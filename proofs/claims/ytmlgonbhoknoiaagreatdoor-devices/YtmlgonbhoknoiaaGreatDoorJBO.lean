import Derived.Test.YtmlgonbhoknoiaaGreatDoorJBJ
import Derived.Test.YtmlgonbhoknoiaaGreatDoorJBN
set_option maxHeartbeats 8000000
set_option maxRecDepth 100000
set_option linter.all false
namespace Go.Proofs.YtmlgonbhoknoiaaGreatDoor
open Go.RowKit Go.Proofs.Tryz
section
attribute [local go_sem ↓] Go.wp_at_zero Go.wp_at_succ
theorem ap.laid {g f:Nat}:∀(c:List L) (a:Nat) {b:P} {d:D},ap d g f b->a+c.length<=b.o.length->ap (d.setCells f a (dt c)) g f {b with o:=laidB b.o a c}
 |[],a,b,d,e,_=>e
 |i::c,a,b,d,e,h=>by
  have j:=e.Xn a (by simp at h;omega) i
  have k:=ap.laid c (a+1) j (by simp at h|-;omega)
  exact k
def PD (b:D)(a:P)(c n k:Nat):ap ((b.alloc (.cells #[.slice (some ⟨b.heap.size+1,0,none⟩) c c,j a.Wj,j a.time,j a.Wh,j a.cmp,j a.Wv,j a.enable,j a.Wr,.bool a.lost,.string a.rx,.string a.Wc] n)).alloc (.cells (madeCells #[.int .u8 0] c) k)) b.heap.size (b.heap.size+1) {a with o:=List.replicate c 0}:=by
 obtain⟨f,h⟩:=y (b.alloc (.cells #[.slice (some ⟨b.heap.size+1,0,none⟩) c c,j a.Wj,j a.time,j a.Wh,j a.cmp,j a.Wv,j a.enable,j a.Wr,.bool a.lost,.string a.rx,.string a.Wc] n));have o:f.heap.size=b.heap.size+1:=by rw[h];simp
 have q:∀e,f.cell? ⟨b.heap.size,e,none⟩=(#[.slice (some ⟨b.heap.size+1,0,none⟩) c c,j a.Wj,j a.time,j a.Wh,j a.cmp,j a.Wv,j a.enable,j a.Wr,.bool a.lost,.string a.rx,.string a.Wc]:Array Value)[e]?:=fun e=>by rw[h];exact fK _ _ _ _ _ rfl
 have r:dY f b.heap.size:=fun i=>by rw[h];exact fp _ _ _ _ _ rfl
 rw[<-h];have m:Kept [] f (f.alloc (.cells (madeCells #[.int .u8 0] c) k)):=dE;have l:b.heap.size<f.heap.size:=J;have d:∀e,(f.alloc (.cells (madeCells #[.int .u8 0] c) k)).cell? ⟨b.heap.size,e,none⟩=(#[.slice (some ⟨b.heap.size+1,0,none⟩) c c,j a.Wj,j a.time,j a.Wh,j a.cmp,j a.Wv,j a.enable,j a.Wr,.bool a.lost,.string a.rx,.string a.Wc]:Array Value)[e]?:=fun e=>(m.cell l F).trans (q e);refine⟨?_,d 1,d 2,d 3,d 4,d 5,d 6,d 7,d 8,d 9,d 10,fun i=>(m.frozen (p:=⟨b.heap.size,i,none⟩) l F).trans (r i),aR l m.size,fun s g=>?_,fun i=>?_,?_,by omega⟩
 . rw[d 0];simp
 . have p:s<c:=pB;rw[<-o,fK _ _ _ _ _ rfl];simp[madeCells,p,q3]
 . rw[<-o];exact fp _ _ _ _ _ rfl
 . simp;omega
def acX (v t:Nat)(b:P)(Q:b.o.length<=65536)(a:D)(n:Hid (ap a v t b)):
 Calls prog 157 #[I v] a fun R u=>R=.returned (I a.heap.size)/\ap u a.heap.size (a.heap.size+1) b/\Kept [] a u:=by
 have h:=n.out;obtain⟨w,c1,c2,c3,c4,c5,L,M,N,O,K,-,U,-,-,-,-⟩:=id h;clear h;obtain⟨G,z,E,e,k⟩:=hy Tryz.Yu;obtain⟨c,r⟩:=y (b.o.length);rw[<-r]at Q w;have A:∀a,(Instr.makeSlice 64 (.int .i64 (c:Int)) (.int .i64 (c:Int))).run prog a=.ok (.slice (some ⟨a.heap.size,0,none⟩) c c) (a.alloc (.cells (madeCells #[.int .u8 0] c) 5)):=by
  intro a;have h:=uh (P:=prog) a 64 5 G (.int .u8 0) gQ z E .i64 .i64 c c m (ju _) uv uw m;rw[e]at h;simpa[Value.cells]using h
 clear z E e k G;obtain⟨S,s⟩:=y (Obj.cells (madeCells #[.int .u8 0] c) 5);rw[<-s]at A;have g:=l (PD a b c 212 5);rw[<-s]at g;clear s;have d:=l r;clear r;go_enter func157,ntmps157;go_upto_region 3 with fail;obtain⟨w3,o⟩:=y ((a.alloc (.cells #[.slice (some ⟨a.heap.size+1,0,none⟩) c c,j b.Wj,j b.time,j b.Wh,j b.cmp,j b.Wv,j b.enable,j b.Wr,.bool b.lost,.string b.rx,.string b.Wc] 212)).alloc S);rw[<-o];rw[<-o]at g;have i:Kept [] a w3:=by rw[o];exact((Kept.refl _ _).alloc _).alloc _
 have p:=g.out.more (Kept.refl [] w3).drew F F;have C:=n.out.more i.drew F F;clear o;have T:(Builtin.copy_ #[64,64] 3 #[.slice (some ⟨a.heap.size+1,0,none⟩) c c,.slice (some ⟨t,0,none⟩) c c]).run prog w3.drew=.ok (.int .i64 c) (w3.drew.setCells (a.heap.size+1) 0 (dt b.o)):=by
  have:=yu (P:=prog) w3.drew 64 64 3 5 (a.heap.size+1) 0 c c ⟨t,0,none⟩ c c (dt b.o) gQ wI (by rw[ja,<-d.out];exact(Nat.min_self c).symm) ?_ ?_ ?_ ?_
  . rw[this,ja,<-d.out];rfl
  . intro q V B;have f:=(oF.1 B).1;rw[ja]at f;rw[ui,eh,C.o q f,<-B];simp[dt,f]
  . intro q f;rw[ja,<-d.out]at f;rw[eh,p.o q (by simpa using f)];rfl
  . intro q _;exact p.XA _
  . exact LM
 have H:Hid (ap (w3.drew.setCells (a.heap.size+1) 0 (dt b.o)) a.heap.size (a.heap.size+1) b):=by
  have x:=ap.laid b.o 0 p (by simp[<-d.out]);rw[wP b.o _ 0 (by simp[<-d.out])]at x;exact l x
 have J:Hid (Kept [] a (w3.drew.setCells (a.heap.size+1) 0 (dt b.o))):=l (Kept.Xh _ (.inr m) _ _ _ i.drew);have d0:=(n.out.more i F F).V8;rw[<-d.out]at d0;have f0:=g.out.V8;simp only[List.length_replicate]at f0;clear p C i g w c1 c2 c3 c4 c5 L M N O K n d A;go_region;all_goals
  go_wp2_with fail;go_ret;exact⟨rfl,H.out,J.out⟩
def jU (b:List Nat):List Value:=b.map fun(a:Nat)=>j (a:Int)
def p3 (a:List Nat):(jU a).length=a.length:=by simp[jU]
def RQ :(prog.info? 3).map (·.size)=some 1:=by kernel_rfl
def ael (x t M A T:Nat)(b:ai)(Y:b.b.o.length<=65536)(c:D)(q:Hid (V c x t M A T b)):
 Calls prog 96 #[I x] c fun W G=>(∃r B C H E,W=.returned (.pointer (some ⟨r,0,none⟩))/\c.heap.size<=r/\c.heap.size<=B/\c.heap.size<=C/\c.heap.size<=H/\c.heap.size<=E/\V G r B C H E b)/\Kept [] c G:=by
 have ar:=wY;have ae:=q.out.V8;have ao:=q.out.lt;have K:=l (acX t T b.b Y c (l q.out.Wt));go_enter func96,ntmps96;go_wp2_with fail;refine K.out.mono ?_;rintro S z ⟨rfl,N,v⟩;clear K;have n:=l (q.out.kept v);have d1:=n.out.c1;have ap:=n.out.lt;have L:=l (ac7 M t c.heap.size b.f z (l n.out.WW));have p:=l N;have s:=l v;clear N v;go_wp2_with fail;refine L.out.mono ?_;rintro S a ⟨rfl,u,i⟩;clear L;have e:=l (n.out.kept i);have af:=e.out.c2;have ag:=e.out.c3;have ah:=e.out.c4;have aj:=e.out.c5;have aq:=e.out.lt;have ad:¬x=a.heap.size:=J;have au:=p.out.lt;have av:=p.out.Ww;have aw:=u.lt;have ax:=s.out.size;have ay:=i.size;have R:Kept [] a (a.alloc (.cells gN 3)):=dE;have m:b.x.length=32:=e.out.XD;have Z:(Builtin.copy_ #[27,27] 3 #[.slice (some ⟨a.heap.size,0,none⟩) 32 32,.slice (some ⟨A,0,none⟩) 32 32]).run prog (a.alloc (.cells gN 3))=.ok (.int .i64 32) ((a.alloc (.cells gN 3)).setCells a.heap.size 0 (jU b.x)):=by
  have h:=e.out.kept R;have:=yu (P:=prog) (a.alloc (.cells gN 3)) 27 27 3 3 a.heap.size 0 32 32 ⟨A,0,none⟩ 32 32 (jU b.x) Tryz.underlying27 RQ (by rw[p3,m];rfl) ?_ ?_ ?_ ?_
  . rw[this,p3,m];rfl
  . intro d ac o;have f:=(oF.1 o).1;rw[p3]at f;rw[ui,eh,h.cr d f,<-o];simp[jU,f]
  . intro d f;rw[p3,m]at f;rw[eh,fK _ _ _ _ _ rfl,yb d f];rfl
  . intro d _;exact fp _ _ _ _ _ rfl
  . intro ac o;simp[jU]at o;exact akm
 obtain⟨w3,g⟩:=y ((a.alloc (.cells gN 3)).setCells a.heap.size 0 (jU b.x));rw[<-g]at Z;have k:Kept [] a w3:=by rw[g];exact Kept.Xh _ (.inr (aB _)) _ _ _ ((Kept.refl _ _).alloc _)
 have Q:w3.heap.size=a.heap.size+1:=by rw[g,my];simp
 have P:∀d (an:d<b.x.length),w3.cell? ⟨a.heap.size,d,none⟩=some (j b.x[d]):=by
  intro d f;have aa:=j9 (a.alloc (.cells gN 3)) a.heap.size 0 (jU b.x) (by rw[p3,m];exact vZ a gN 3);have:=aa d (j b.x[d]) (by simp[jU,f]);rw[eh]at this;rw[g];exact this
 have O:dY w3 a.heap.size:=fun S=>by rw[g,tX];exact fp _ _ _ _ _ rfl
 clear g;have w:Kept [] w3 w3.drew:=(Kept.refl _ _).drew;have X:=l (V.box (w:=w3.drew) (bb:=c.heap.size) (rb:=c.heap.size+1) (fb:=z.heap.size) (xb:=a.heap.size) (B:=b.b) (C:=b.f) (x:=b.x) (((p.out.more i F F).more k F F).more w F F) ((u.more k F).more w F) m P O (by show _<w3.heap.size;omega) (by
  simp only[gS,dD,eR,eS,gi,iR,gg,ur];exact⟨⟨by omega,by omega,by omega⟩,⟨by omega,by omega⟩,by omega⟩) b.V3 b.res b.wait 178)
 have ab:Hid (Kept [] c w3):=l ((s.out.trans i).trans k);have h:=e.out.kept k;have ak:=h.c3;have al:=h.c4;have am:=h.c5;have U:=l Q;clear k Q P O w h u i R p s n e;go_upto_region 5 with fail;go_region;all_goals
  go_wp2_with fail;go_ret;refine⟨⟨w3.heap.size,c.heap.size,z.heap.size,a.heap.size,c.heap.size+1,rfl,?_,?_,?_,?_,?_,X.out⟩,ab.out.drew.alloc _⟩
  . have:=U.out;omega
  all_goals omega
end
def kP (a:aC):List Value:=[.string ⟨a.Xz.toArray⟩,j a.i.op,j a.i.op,j a.i.rd,j a.i.V1,j a.i.V6,j a.i.V2,j a.i.V4,.string ⟨a.Xa.toArray⟩,j a.i.V4]
def gx (a:List aC):List Value:=a.flatMap kP
def RU (a:List aC)(b:aC):gx (a++[b])=gx a++kP b:=by simp[gx]
theorem Ck :∀(a:List aC) (c:Nat) (e:c<a.length) (b:Nat),b<10->(gx a)[c*10+b]?=(kP a[c])[b]?
 |[],c,e,b,f=>by simp at e
 |d::a,0,e,b,f=>by
  have:gx (d::a)=kP d++gx a:=by simp[gx]
  rw[this,oS,eh,tV (by simp[kP];omega)];rfl
 |d::a,c+1,e,b,f=>by
  have:gx (d::a)=kP d++gx a:=by simp[gx]
  have g:(kP d).length=10:=rfl
  rw[this,tW (by rw[g];omega),g,show(c+1)*10+b-10=c*10+b by omega,Ck a c (by simpa using e) b f];rfl
def RX {e:D}{i:Nat}{h:Value}{b:List aC}(j:e.ownsRow i 169 10 h b.length (gx b))(p:h≠ .slice none 0 0):
 ∃g f,h=.slice (some ⟨g,0,none⟩) b.length f/\i<=g/\g<e.heap.size/\g2 e (some ⟨g,0,none⟩) b:=by
 rcases j.2 with⟨q,_⟩|⟨g,f,r,rfl,k,n,s⟩
 . exact absurd q p
 . refine⟨g,f,rfl,k,(q4.1 n).1,.inr ⟨g,rfl,fun d o=>?_⟩⟩;have a:∀c,c<10->e.cell? ⟨g,d*10+c,none⟩=(kP b[d])[c]?:=fun c l=>by rw[j.cellAt (d*10+c) (by omega),Ck b d o c l]
   exact⟨a 0 m,a 1 m,a 2 m,a 3 m,a 4 m,a 5 m,a 6 m,a 7 m,a 8 m,a 9 m⟩
theorem te :∀(a b:List L),(u.bP b a).length=1+u.hO a
 |[],b=>by simp[u.bP,u.hO]
 |c::a,b=>by
  simp only[u.bP,u.hO]
  split
  . rw[c9,te a []];omega
  . rw[te a];omega
theorem xt :∀(b d:List L),∀c∈u.bP d b,c.length<=d.length+b.length
 |[],d,c,a=>by simp only[u.bP,yA]at a;rw[a];omega
 |e::b,d,c,a=>by
  simp only[u.bP]at a
  split at a
  . rcases dD.1 a with rfl|a
    . omega
    . have:=xt b [] c a;simp only[c9,yC]at this|-;omega
  . have:=xt b _ c a;simp only[mQ,c9,yC]at this|-;omega
def u.fin (a:List aC×Int×Nat):List L×Int×Nat:=if a.2.1=0 then u.lay a.1 a.1 0 []else([],a.2.1,a.2.2)
def u.X0 (a:List aC)(b:List (List L)):List L×Int×Nat:=u.fin (u.readAll a b)
def Pg (a:List aC):u.X0 a []=u.lay a a 0 []:=by
 show u.fin (a,0,0)=_;unfold u.fin;exact B rfl
def Pj {b:List aC}{a:List L}{c:List (List L)}(e:(u.cm (u.tok a.length a) b).1=0):u.X0 b (a::c)=u.X0 (b++[(u.cm (u.tok a.length a) b).2]) c:=by
 have d:u.readAll b (a::c)=u.readAll (b++[(u.cm (u.tok a.length a) b).2]) c:=by rw[u.readAll,B e]
 unfold u.X0;rw[d]
def Ph {b:List aC}{a:List L}{d:List (List L)}(c:¬(u.cm (u.tok a.length a) b).1=0):u.X0 b (a::d)=([],(u.cm (u.tok a.length a) b).1,b.length+1):=by
 have e:u.readAll b (a::d)=([],(u.cm (u.tok a.length a) b).1,b.length+1):=by rw[u.readAll,z c]
 unfold u.X0;rw[e];unfold u.fin;exact z c
def aaO {c:List aC}(d:∀b∈c,km b):Tidy c:=fun b e=>by
 rcases(d b e).ZV with⟨_,a,_⟩|⟨_,_,a⟩|⟨_,a,_⟩|⟨_,a,_⟩<;>omega
theorem aaU (p:K)(q:D):
 aa 93 #[.string p] (.tuple #[u.aG (u.g6 p.data.toList).1,j (u.g6 p.data.toList).2.1,j (u.g6 p.data.toList).2.2]) q:=by
 obtain⟨n,o⟩:=y (u.g6 p.data.toList);rw[<-o];unfold u.g6 at o;have aQ:p.data.toList.length=p.size:=u4;rw[aQ]at o;by_cases aD:4096<p.size
 . rw[B aD]at o;have bJ:decide (4096< (p.size:Int))=true:=M;have HR:=l o;clear o;go_enter func93,ntmps93;go_wp2_with fail;exact AI
 rw[z aD]at o;have bJ:decide (4096< (p.size:Int))=false:=M;have C:=aa2 p m q;have H:=te p.data.toList [];have aO:=xt p.data.toList [];obtain⟨e,a9⟩:=y (u.bP [] p.data.toList);rw[<-a9]at C H aO o;rw[<-H]at o;have au:=l (C.mono fun Q r x=>(by
  obtain⟨Z,bV,bo,S,A⟩:=x;obtain⟨G,U,rfl,aD,af,bP⟩:=bc.Y0 S bo;exact⟨G,U,bV,af,l bP,A⟩:∃G U,Q=.returned (.slice (some ⟨G,0,none⟩) e.length U)/\G<r.heap.size/\Hid (bc r G 0 e)/\Below q.heap.size q r))
 have a2:Hid (∀aV∈e,aV.length<=4096):=l (fun aV b1=>by have:=aO aV b1;rw[aQ]at this;simp at this;omega);have b9:e.length<=4097:=by rw[H];have:=u.CH p.data.toList;omega
 clear C a9 H aO aQ;by_cases af:256<e.length
 . rw[B af]at o;have bK:decide (256< (e.length:Int))=true:=M;have HR:=l o;clear o;go_enter func93,ntmps93;go_wp2_with fail;refine au.out.mono ?_;rintro Q r ⟨G,U,rfl,A,aP,V⟩;go_wp2_with fail;go_ret3;exact⟨by rw[HR.out];rfl,V⟩
 rw[z af]at o;have bK:decide (256< (e.length:Int))=false:=M;have HR:Hid (n=u.X0 [] e):=o;clear o;have bY:∀q,(Instr.buildSlice 167 0 #[]).run prog q=.ok (.slice (some ⟨q.heap.size,0,none⟩) 0 0) (q.alloc (.cells #[] 169)):=fun _=>by kernel_rfl
 have bl:(prog.info? 169).map (fun i=>(i.zero,i.size,i.bytes))=some (some (bE ⟨#[]⟩ aF ⟨#[]⟩),10,96):=gY;obtain⟨b2,bk,bA,bB,bC⟩:=hy bl;clear bl;go_enter func93,ntmps93;go_wp2_with fail;refine au.out.mono ?_;rintro Q r ⟨G,U,rfl,bU,aP,V⟩;have ap:=l V;have aS:=V.size;clear au V;go_wp2_with fail;go_loopw [6,7] (fun Z aU wr=>∃(c:Nat) (a:List aC),c<=e.length/\Hid (a.length=c)/\aU=j c/\Z≠ .slice none 0 0/\Hid (wr.ownsRow r.heap.size 169 10 Z a.length (gx a))/\Hid (Below r.heap.size r wr)/\Hid (∀v∈a,km v)/\Hid (n=u.X0 a (e.drop c))) (fun _ aU _=>e.length- (intOf aU).toNat);case atStart=>exact⟨0,[],by omega,l rfl,rfl,by simp,l (ri r _ 0 (aB _) gq rfl),l ((aq _ _).alloc (aB _) _),l F,HR⟩
 case round=>
  obtain⟨c,a,cc,ag,rfl,bp,S,A,X,k⟩:=hrel;clear HR bY;have bQ:a.length<=5000:=by have:=ag.out;omega
  obtain⟨g,ay,rfl,cb,aL,bm⟩:=RX S.out bp;have ar:=l bm;clear bm;have bg:=A.out.size;by_cases aN:c<e.length
  . have bx:=bc.more aP bU A.out;have a6:=bx.out c aN;obtain⟨h,aH⟩:=y (⟨e[c].toArray⟩:K);have d0:wr.cell? ⟨G,c,none⟩=some (.string h):=by rw[<-eh c,a6,aH];rfl
    have aI:h.data.toList=e[c]:=by rw[aH]
    have ah:h.size=e[c].length:=by rw[<-aI,dQ];rfl
    have bd:h.size<=4096:=by rw[ah];exact a2.out _ (gf aN)
    have al:=abe (some ⟨g,0,none⟩) ay a m h bd wr ar (l (fun a4 x=>by simp only[b6]at x;rw[<-x];exact aL));have bh:e.drop c=e[c]::e.drop (c+1):=js aN;rw[bh]at k;rw[ah,aI]at al;obtain⟨a3,ai⟩:=y (u.cm (u.tok e[c].length e[c]) a);have bf:km a3.2:=by rw[ai];exact UO _ _
    rw[<-ai]at al;have a0:=l al;have I:=l ai;have ax:=l bf;clear al ai bf bh aH aI ah bd a6 bx;obtain⟨w,v⟩:=a3;go_wp2_with fail;refine a0.out.mono ?_;rintro Q ce ⟨⟨bM,s,bN,rfl,aK⟩,aJ⟩;have ab:=l (A.out.trans (aJ.mono A.out.size));have aZ:=l (w7 S.out aJ);have cd:=ab.out.size;unfold bE;clear a0 aJ A S d0 ar;by_cases b:w=0
    . have am:(w !=0)=false:=gW;have aj:Hid (n=u.X0 (a++[v]) (e.drop (c+1))):=by
       show n=_;have az:(u.cm (u.tok e[c].length e[c]) a).1=0:=by rw[<-I.out];exact b
       have aA:(u.cm (u.tok e[c].length e[c]) a).2=v:=(by rw[<-I.out]);rw[k.out,Pj az,aA]
      have bn:Hid (∀aW∈a++[v],km aW):=l (fun aW T=>by
       rcases List.mem_append.1 T with T|T
       . exact X.out aW T
       . rw[yA]at T;rw[T];exact ax.out)
      have bi:=aK.out b;have aY:=l bi;have bt:∀s,(Value.slice (some ⟨g,0,none⟩) a.length ay).ownBlock=some s->r.heap.size<=s:=fun s bW=>by
       simp only[Value.ownBlock,b6]at bW;omega
      have bL:=l bt;clear bt bi aK k b I ax X;go_wp2_with(at_builtin;refine j8 _ rfl (.tmp 43) (.tmp 45) 167 rfl r.heap.size 169 b2 (bE ⟨#[]⟩ aF ⟨#[]⟩) 10 96 Tryz.underlying167 bk bA bB bC rfl R _ _ _ rfl ((aZ.out.alloc _).alloc _) ⟨_,0,none⟩ 1 1 [.string bM,j s.op,j s.op,j s.rd,j s.V1,j s.V6,j s.V2,j s.V4,.string bN,j s.V4] rfl rfl ?c1 ?c2 ?c3 ?c4 ?c5 ?_);case c1=>
       intro bD b3 d;match bD,d with
       |0,d=>simp at d;subst d;simp[Addr.add]
       |1,d=>simp at d;subst d;simp[Addr.add]
       |2,d=>simp at d;subst d;simp[Addr.add]
       |3,d=>simp at d;subst d;simp[Addr.add]
       |4,d=>simp at d;subst d;simp[Addr.add]
       |5,d=>simp at d;subst d;simp[Addr.add]
       |6,d=>simp at d;subst d;simp[Addr.add]
       |7,d=>simp at d;subst d;simp[Addr.add]
       |8,d=>simp at d;subst d;simp[Addr.add]
       |9,d=>simp at d;subst d;simp[Addr.add]
       |bD+10,d=>simp at d
      case c2=>intro b3 hu;simp at hu;rcases hu with rfl|rfl|rfl|rfl|rfl|rfl|rfl|rfl|rfl|rfl<;>rfl
      case c3=>exact gq
      case c4=>omega
      case c5=>simp;omega
      intro ao w3 an bj t;have aX:ao≠ .slice none 0 0:=pd;have bu:=l (((ab.out.alloc m _).alloc ad _).grown bj ad bL.out);clear t bj aZ ab;obtain⟨bG,bH,bI⟩:=aY.out;have bq:Hid (w3.ownsRow r.heap.size 169 10 ao (a++[v]).length (gx (a++[v]))):=by
       show w3.ownsRow r.heap.size 169 10 ao (a++[v]).length (gx (a++[v]));rw[RU,mQ];rw[bG,bH,bI]at an;exact an
      clear an bG bH bI aY;go_wp2_with fail;go_roundw;case rel=>
       first
        |exact⟨c+1,a++[v],by omega,l (by have:=ag.out;simp;omega),by go_num,aX,bq,bu,bn,aj⟩
        | ((repeat apply hC);exact⟨⟨c+1,a++[v],by omega,l (by have:=ag.out;simp;omega),by go_num,aX,bq,bu,bn,aj⟩,rfl⟩)
      case measure=>exact a5
    . have am:(w !=0)=true:=gW;have aj:Hid (n=([],w,c+1)):=by
       show n=_;have az:¬(u.cm (u.tok e[c].length e[c]) a).1=0:=by rw[<-I.out];exact b
       have aA:(u.cm (u.tok e[c].length e[c]) a).1=w:=(by rw[<-I.out]);rw[k.out,Ph az,aA,ag.out]
      clear aK k b I ax X;go_wp2_with fail;go_ret3;exact⟨by rw[aj.out];rfl,(ap.out.trans (ab.out.mono aS)).alloc m _⟩
  . have b8:decide ((c:Int)< (e.length:Int))=false:=M;have a1:Hid (n=u.lay a (a.drop 0) 0 (⟨#[]⟩:K).data.toList):=by
     show n=_;rw[k.out,eQ (by omega),Pg];rfl
    rename D=>bF;have aw:=l (aaO X.out);clear k bp S aP a2 bk bA bB bC;go_wp2_with fail;go_loopw [10,11] (fun Z aT b5=>∃(c:Nat) (h:K),c<=a.length/\h.size<=4*c/\Z=.string h/\aT=j c/\Hid (h.data.toList.length=(u.place a c).toNat)/\Hid (Below bF.heap.size bF b5)/\Hid (n=u.lay a (a.drop c) c h.data.toList)) (fun _ aT _=>a.length- (intOf aT).toNat);case atStart=>exact⟨0,⟨#[]⟩,by omega,by decide,rfl,rfl,l (by cases a<;>rfl),l (aq _ _),a1⟩
    case round=>
     obtain⟨f,h,bo,ah,rfl,rfl,be,O,k⟩:=hrel;clear a1;by_cases C:f<a.length
     . have aM:=abq (some ⟨g,0,none⟩) ay a bQ aw f C (X.out _ (gf C)) wr (l (ar.out.below O.out (fun a4 x=>by simp only[b6]at x;rw[<-x];exact aL))) (l (fun a4 x=>by simp only[b6]at x;rw[<-x];exact aR aL O.out.size));rw[Sz C,be.out]at k;have H:=V0 (L:=a) (l:=a[f]) (n:=(u.place a f).toNat);have bs:=w9 a f C;have br:=mp a f aw.out;have bz:=aw.out a[f] (gf C);obtain⟨bO,bb⟩:=y (u.Xe a a[f] (u.place a f).toNat);rw[<-bb]at aM k H;have N:=l aM;have av:=l (cZ H (cZ bs (cZ br bz)));clear aM bb H bs br bz;obtain⟨Y,w⟩:=bO;obtain⟨P,aG⟩:=y (⟨Y.toArray⟩:K);have ba:P.data.toList=Y:=by rw[aG]
       have ae:=l ba;clear ba;unfold u.aG at N;simp only at N;rw[<-aG]at N;have bR:P.size=Y.length:=by rw[<-ae.out,dQ];rfl
       clear aG;by_cases b:w=0
       . have am:(w !=0)=false:=gW;obtain⟨bv,bw,bZ,b0⟩:=av.out;have bX:(Y.length:Int)=a[f].i.V4:=by rw[bv b];omega
         have bS:P.size<=4:=J;obtain⟨E,L⟩:=y (h++P);have ca:∀q,(Op.stringOp .add h P).run prog q=.ok (.string E) q:=fun q=>eb (a:=h) (b:=P) (c:=E) L.symm m q;have a8:E.size<=4* (f+1):=HD;have aE:E.data.toList=h.data.toList++Y:=by rw[L,Bn,ae.out]
         have a7:Hid (E.data.toList.length=(u.place a (f+1)).toNat):=by
          show _=_;rw[aE,mQ,be.out,bw];omega
         have ak:Hid (n=u.lay a (a.drop (f+1)) (f+1) E.data.toList):=by
          show n=_;rw[k.out,B b,aE]
         clear k L aE bv bw bZ b0 av bX b bR bS ae;go_wp2_with fail;refine N.out.mono ?_;rintro Q b4 ⟨rfl,W⟩;have ac:=l (O.out.trans (W.mono O.out.size));clear N W;go_wp2_with fail;go_roundw;case rel=>
          first
           |exact⟨f+1,E,by omega,a8,rfl,by go_num,a7,ac,ak⟩
           | ((repeat apply hC);exact⟨⟨f+1,E,by omega,a8,rfl,by go_num,a7,ac,ak⟩,rfl⟩)
         case measure=>exact a5
       . have am:(w !=0)=true:=gW;have ak:Hid (n=([],w,f+1)):=by
          show n=_;rw[k.out,z b]
         clear k b av ae;go_wp2_with fail;refine N.out.mono ?_;rintro Q b4 ⟨rfl,W⟩;have ac:=l (O.out.trans (W.mono O.out.size));clear N W;go_wp2_with fail;go_ret3;exact⟨by rw[ak.out];rfl,ap.out.trans ((A.out.trans (ac.out.mono bg)).mono aS)⟩
     . have bT:Hid (n=(h.data.toList,0,0)):=by
        show n=_;rw[k.out,eQ (by omega)];rfl
       have b7:decide ((f:Int)< (a.length:Int))=false:=M;clear k;go_wp2_with fail;go_ret3;exact⟨by rw[bT.out];unfold u.aG;simp only[hf];rfl,ap.out.trans ((A.out.trans (O.out.mono bg)).mono aS)⟩
end Go.Proofs.YtmlgonbhoknoiaaGreatDoor
