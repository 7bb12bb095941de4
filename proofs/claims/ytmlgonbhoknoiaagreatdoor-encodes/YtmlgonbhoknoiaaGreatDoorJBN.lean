import Derived.Test.YtmlgonbhoknoiaaGreatDoorJBM
set_option maxHeartbeats 8000000
set_option maxRecDepth 100000
set_option linter.all false
namespace Go.Proofs.YtmlgonbhoknoiaaGreatDoor
open Go.RowKit Go.Proofs.Tryz
def jh (d:D)(a:Nat)(c:K)(i:U)(b:K):D:=
 (((((((((d.setCell ⟨a,0,none⟩ (.string c)).setCell ⟨a,1,none⟩ (j i.op)).setCell ⟨a,2,none⟩ (j i.op)).setCell ⟨a,3,none⟩ (j i.rd)).setCell ⟨a,4,none⟩ (j i.V1)).setCell ⟨a,5,none⟩ (j i.V6)).setCell ⟨a,6,none⟩ (j i.V2)).setCell ⟨a,7,none⟩ (j i.V4)).setCell ⟨a,8,none⟩ (.string b)).setCell ⟨a,9,none⟩ (j i.V4)
def a4.put {e:D}{a:Nat}{t f c b:K}{i d:U}(u:a4 e a t i f):a4 (jh e a c d b) a c d b:=by
 obtain⟨g,h,j,k,l,m,n,o,p,q,r,s⟩:=id u;unfold jh;exact MW
def sn {a:Nat}{d b:D}(e:Below a d b){c:Nat}(f:a<=c)(h:K)(i:U)(g:K):Below a d (jh b c h i g):=by
 unfold jh;exact Mv
def a4.XN {f:D}{a c:Nat}{e d v u:K}{i w:U}(y:a4 f a e i d)(b:a≠c):a4 (jh f c v w u) a e i d:=by
 obtain⟨g,h,j,k,l,m,n,o,p,q,s,t⟩:=id y;have r:¬c=a:=fun x=>b x.symm;unfold jh;exact MX
def N9 (f:K)(b:Option (U×List L))(g:Ending):Prop:=∃(c:U) (a:K),g=.returned (.tuple #[bE f c a,.bool b.isSome])/\Hid (∀d e,b=some (d,e)->c=d/\a=⟨e.toArray⟩)
theorem TM (i:U)(g:List L)(b:Nat)(c:List (List L))(f:b=100\/b=115\/b=116)(e:U×List L)(a:u.cb i g b c=some e):e.1.V2=i.V2:=by
 unfold u.cb at a;rw[B f]at a;unfold u.fS at a;cases d:u.cr (c[0]?.getD [])with
 |none=>rw[d]at a;simp at a
 |some r=>
  rw[d]at a;simp only[gR,b6]at a;rw[<-a];show(if b=100 then _ else _:U).V2=_;repeat(first|rfl|split)
def Vl :((List.range 73).all fun a=>(List.range 8).all fun c=>(List.range c).all fun b=>decide (((Nm.shape a).data.toList.map UInt8.toNat)[c]?=some 106->((Nm.shape a).data.toList.map UInt8.toNat)[b]?=some 100\/((Nm.shape a).data.toList.map UInt8.toNat)[b]?=some 115\/((Nm.shape a).data.toList.map UInt8.toNat)[b]?=some 116))=true:=by decide+kernel
def vS (b:K):Prop:=∀c a,c<8->a<c->(b.data.toList.map UInt8.toNat)[c]?=some 106->(b.data.toList.map UInt8.toNat)[a]?=some 100\/(b.data.toList.map UInt8.toNat)[a]?=some 115\/(b.data.toList.map UInt8.toNat)[a]?=some 116
def Vj (a:Nat)(i:a<=72):vS (Nm.shape a):=by
 intro g b j h f;have c:=cj.1 Vl a ad;have d:=cj.1 c g ad;have e:=cj.1 d b ad;exact of_decide_eq_true e f
def DV (b:K)(a:Nat)(c:a<b.size):(b.data.toList.map UInt8.toNat)[a]?=some b[a].toNat:=by
 have d:a<b.data.toList.length:=by rw[dQ];exact c
 rw[qY,fa d];rfl
def nj (c:K)(b:Nat)(i:U):Prop:=∀a,b<=a->a<8->(c.data.toList.map UInt8.toNat)[a]?=some 106->i.V2=0
def nj.next {b:K}{a:Nat}{i e:U}{g y:List L}{c:Nat}{f:List (List L)}(o:vS b)(l:nj b a i)(p:a<b.size)(q:c=b[a].toNat)(r:u.cb i g c f=some (e,y)):nj b (a+1) e:=by
 intro k s h j;have d:=o k a h m j;rw[DV b a p,<-q]at d;simp only[b6]at d;have n:=TM i g c f d (e,y) r;rw[n];exact l k m h j
def CP {d:List Nat}{c:Nat}{a:Nat}{i:U}{g:List L}{b:List (List L)}(f:0<a)(e:¬b[0]?.getD []=[44]):u.bJ (c::d) (decide (0<a)) i g b=none:=by
 rw[bd f];simp only[u.bJ];rw[B ⟨trivial,e⟩]
def TT {e:List Nat}{d:Nat}{a:Nat}{i:U}{g:List L}{c:List (List L)}(h:0<a->c[0]?.getD []=[44]):u.bJ (d::e) (decide (0<a)) i g c=match u.cb i g d (c.drop (if 0<a then 1 else 0))with|none=>none|some (j,k)=>u.bJ e true j k ((c.drop (if 0<a then 1 else 0)).drop (u.ao d)):=by
 by_cases b:0<a
 . have:=h b;rw[bd b,B b];simp only[u.bJ,if_true];rw[z (fun f=>f.2 this),ls];rfl
 . rw[aV b,z b];simp only[u.bJ,ei,oP,cS];rw[ls,eh];rfl
def ajI {a wc b:D}{j e h c:K}{i d:U}(l:a4 wc a.heap.size j i h)(g:a4 wc (a.heap.size+1) ⟨#[]⟩ ⟨0,0,0,0,0,0⟩ ⟨#[]⟩)(k:Below a.heap.size a wc)(n:Below wc.heap.size wc.drew b):
 Hid (a4 (b.alloc (bo e d c)) b.heap.size e d c/\a4 (b.alloc (bo e d c)) a.heap.size j i h/\a4 (b.alloc (bo e d c)) (a.heap.size+1) ⟨#[]⟩ ⟨0,0,0,0,0,0⟩ ⟨#[]⟩/\Below a.heap.size a (b.alloc (bo e d c))/\a.heap.size+2<=b.heap.size):=by
 have f:Below wc.heap.size wc b:=(aq _ _).drew.trans n;have o:=g.lt;have p:=f.size;exact⟨a4.new _ _ _ _,(l.more f l.lt).alloc _,(g.more f g.lt).alloc _,(k.trans (f.mono k.size)).alloc m _,by omega⟩
def ajJ {a wc b:D}{j e h c:K}{i d:U}(l:a4 wc a.heap.size j i h)(g:a4 wc (a.heap.size+1) ⟨#[]⟩ ⟨0,0,0,0,0,0⟩ ⟨#[]⟩)(k:Below a.heap.size a wc)(f:Below wc.heap.size wc b)(n:a4 b wc.heap.size ⟨#[]⟩ ⟨0,0,0,0,0,0⟩ ⟨#[]⟩):
 Hid (a4 (jh b wc.heap.size e d c) wc.heap.size e d c/\a4 (jh b wc.heap.size e d c) a.heap.size j i h/\a4 (jh b wc.heap.size e d c) (a.heap.size+1) ⟨#[]⟩ ⟨0,0,0,0,0,0⟩ ⟨#[]⟩/\Below a.heap.size a (jh b wc.heap.size e d c)/\a.heap.size+2<=wc.heap.size):=by
 have o:=g.lt;exact⟨n.put,(l.more f l.lt).XN m,(g.more f g.lt).XN m,sn (k.trans (f.mono k.size)) m _ _ _,by omega⟩
theorem abc (b:K)(i:U)(g:List L)(f:K)(cj:f.size<=8)(b9:Hid (∀H (d:H<f.size),f[H].toNat=100\/f[H].toNat=115\/f[H].toNat=116\/f[H].toNat=109\/f[H].toNat=106\/f[H].toNat=117\/f[H].toNat=105))(b8:Hid (vS f))(b7:Hid (i.V2=0))
 (n ak ba:Nat) (x:List (List L)) (cg:x.length<=5000) (b5:x.length<=ba) (a:D) (bS:Hid (bc a n ak x)) (bk:n<a.heap.size) (cb:Hid (ez x)):
 Calls prog 229 #[bE b i ⟨g.toArray⟩,.string f,.slice (some ⟨n,ak,none⟩) x.length ba] a fun aa a6=>N9 b (u.bJ (f.data.toList.map UInt8.toNat) false i g x) aa/\Below a.heap.size a a6:=by
 obtain⟨N,ah⟩:=y (u.bJ (f.data.toList.map UInt8.toNat) false i g x);rw[<-ah];have bC:=l ah;clear ah;obtain⟨c,be⟩:=y (⟨g.toArray⟩:K);rw[<-be];have bz:Below a.heap.size a ((a.alloc (bo b i c)).alloc (bo ⟨#[]⟩ aF ⟨#[]⟩)):=pk;have bI:a4 ((a.alloc (bo b i c)).alloc (bo ⟨#[]⟩ aF ⟨#[]⟩)) (a.heap.size+1) ⟨#[]⟩ aF ⟨#[]⟩:=by
  have d:=a4.new (a.alloc (bo b i c)) ⟨#[]⟩ aF ⟨#[]⟩;simpa using d
 have bJ:a4 ((a.alloc (bo b i c)).alloc (bo ⟨#[]⟩ aF ⟨#[]⟩)) a.heap.size b i c:=zi;have a7:=l bz;have ae:=l bI;have af:=l bJ;have bA:=l be;unfold bo aF at a7 ae af;clear bz bI bJ be;unfold bE;go_enter func229,ntmps229;go_wp2_with fail;go_loopw [2,8] (fun V H wr=>∃(Y aD e:Nat) (A:List (List L)) (q:U) (v:List L),e<=f.size/\A.length<=x.length/\A.length<=aD/\V=.slice (some ⟨n,Y,none⟩) A.length aD/\H=j e/\Hid (∀W,bc W n ak x->bc W n Y A)/\Hid (ez A)/\Hid (nj f e q)/\Hid (a4 wr a.heap.size b q ⟨v.toArray⟩)/\Hid (a4 wr (a.heap.size+1) ⟨#[]⟩ ⟨0,0,0,0,0,0⟩ ⟨#[]⟩)/\Hid (Below a.heap.size a wr)/\Hid (N=u.bJ ((f.data.toList.map UInt8.toNat).drop e) (decide (0<e)) q v A)) (fun _ H _=>f.size- (intOf H).toNat);case atStart=>exact⟨ak,ba,0,x,i,g,by omega,by omega,b5,rfl,rfl,l (fun _ d=>d),cb,l (fun _ _ _ _=>b7.out),by rw[<-bA.out];exact af,ae,a7,by simpa using bC⟩
 case round=>
  obtain⟨Y,aD,e,A,q,v,cf,bs,aY,rfl,rfl,a1,cc,bP,G,P,k,s⟩:=hrel;clear a7 ae af bA bC;by_cases a0:e<f.size
  . rw[su f e a0]at s;obtain⟨C,aX⟩:=y (f[e].toNat);rw[<-aX]at s;have bq:=b9.out e a0;rw[<-aX]at bq;have aT:=l aX;have bW:=l bq;clear aX bq;have bU:Hid (bc wr n Y A):=bc.more (l (a1.out _ bS.out)) bk k.out;have bn:n<wr.heap.size:=aR bk k.out.size;go_upto_if 19 with fail;go_cut [2]from 19 to 31 (fun V al=>∃(Q Z:Nat) (o:List (List L)),V=.slice (some ⟨n,Q,none⟩) o.length Z/\al=wr/\o.length<=x.length/\o.length<=Z/\Hid (o=A.drop (if 0<e then 1 else 0))/\Hid (0<e->A[0]?.getD []=[44])/\Hid (∀W,bc W n ak x->bc W n Q o));case first=>
     by_cases h:0<e
     . have bx:decide (0<e)=true:=ni;cases A with
       |nil=>
        have O:Hid (N=none):=by
         show N=none;rw[s.out];exact CP h F
        clear s;obtain⟨am,an,ao,ap,ar,au,av,aw,ax,ay,az,aA⟩:=G.out;obtain⟨aG,aH,aI,aJ,aK,aL,aM,aN,aO,aP,aQ,aS⟩:=P.out;go_wp2_with fail;refine ac (v:=.tuple #[bE b q ⟨v.toArray⟩,.bool false]) ro rfl ⟨⟨q,⟨v.toArray⟩,by rw[O.out]<;>rfl,l (fun w J d=>by rw[O.out]at d;cases d)⟩,?_⟩;repeat(first|with_reducible exact aq _ _|with_reducible exact k.out|(with_reducible refine bf ?_ F _)|(with_reducible refine bl ?_ F _))
       |cons t0 LT=>
        have bK:=bU.out 0 F;obtain⟨ag,bj⟩:=y (⟨t0.toArray⟩:K);have d0:wr.cell? ⟨n,Y,none⟩=some (.string ag):=by rw[<-dl Y,bK,bj];rfl
        have f0:ag.data.toList=t0:=by rw[bj]
        have bV:(ag.toList==[44])=decide (ag.data.toList=[44]):=ha ag [44];obtain⟨Q,Z,bR,aZ,ai⟩:=k7 n Y aD (t0::LT) 1 1 rfl F aY;simp only[oU,jt]at bR aZ ai;simp only[c9]at bR bs aY|-;have b1:=l ai;have ca:((LT.length:Int)+1==0)=false:=M;clear bK bj ai;by_cases aj:ag.data.toList=[44]
        . rw[bd aj]at bV;have b0:Hid (t0=[44]):=by rw[<-f0];exact l aj
          have bZ:=l h;clear aj f0;go_wp2_with fail;go_meet;case rel=>exact⟨Q,Z,LT,rfl,rfl,by omega,aZ,by rw[B bZ.out];exact l rfl,l (fun _=>by rw[b0.out];rfl),l (fun W d=>b1.out W (a1.out W d))⟩
        . rw[aV aj]at bV;have O:Hid (N=none):=by
           show N=none;rw[s.out];exact CP h (by rw[<-f0];exact aj)
          clear aj f0 s;obtain⟨am,an,ao,ap,ar,au,av,aw,ax,ay,az,aA⟩:=G.out;obtain⟨aG,aH,aI,aJ,aK,aL,aM,aN,aO,aP,aQ,aS⟩:=P.out;go_wp2_with fail;refine ac (v:=.tuple #[bE b q ⟨v.toArray⟩,.bool false]) ro rfl ⟨⟨q,⟨v.toArray⟩,by rw[O.out]<;>rfl,l (fun w J d=>by rw[O.out]at d;cases d)⟩,?_⟩;exact vH
     . have bx:decide (0<e)=false:=ni;have bY:=l h;obtain rfl:e=0:=by omega
       clear h bx;go_wp2_with fail;go_meet;case rel=>exact⟨Y,aD,A,rfl,rfl,bs,aY,l (by rw[z (by omega)];rfl),l (fun d=>absurd d bY.out),a1⟩
    case rest=>
     obtain⟨Q,Z,o,rfl,rfl,ci,aZ,bN,bL,ai⟩:=hcut;rw[TT bL.out,<-bN.out]at s;have bQ:Hid (ez o):=by rw[bN.out];exact l (fun V bw=>cc.out V (uq bw))
     have bT:Hid (bc wc n Q o):=bc.more (l (ai.out _ bS.out)) bk k.out;obtain⟨aC,aW⟩:=y (u.cb q v C o);rw[<-aW]at s;have bO:C=106->q.V2=0:=fun d=>bP.out e (aB _) m (by rw[DV f e a0,<-aT.out,d]);have bp:∀W:D,Below wc.heap.size wc W->Calls prog 310 #[bE b q ⟨v.toArray⟩,.int .u8 C,.slice (some ⟨n,Q,none⟩) o.length Z] W fun aa a6=>sc b aC n Q o (o.drop (u.ao C)) aa/\Below W.heap.size W a6:=by
      intro W bH;have d:=aba b v q C bW.out bO n Q Z o m aZ W (bc.more bT bn bH) (aR bn bH.size) bQ;rw[<-aW]at d;exact d
     have bG:∀w,aC=some w->Hid (nj f (e+1) w.1):=fun w d=>l (nj.next (y:=w.2) b8.out bP.out a0 aT.out (by rw[<-aW];exact d));have a9:=l bG;have ch:f[e].toNat=C:=aT.out.symm;clear bG aW bL aT bO a1 bU;obtain⟨am,an,ao,ap,ar,au,av,aw,ax,ay,az,aA⟩:=G.out;have a8:=l ((bp wc.drew (aq _ _).drew).mono fun aa ad d=>(⟨d.1,d.2⟩:_/\Below wc.heap.size wc.drew ad));have bt:=(a4.new wc ⟨#[]⟩ ⟨0,0,0,0,0,0⟩ ⟨#[]⟩).more (w':=(wc.alloc (bo ⟨#[]⟩ ⟨0,0,0,0,0,0⟩ ⟨#[]⟩)).drew) (n:=wc.heap.size+1) ((aq _ _).drew) m;have a2:Below wc.heap.size wc (wc.alloc (bo ⟨#[]⟩ ⟨0,0,0,0,0,0⟩ ⟨#[]⟩)).drew:=Hw;have aU:=l ((bp (wc.alloc (bo ⟨#[]⟩ ⟨0,0,0,0,0,0⟩ ⟨#[]⟩)).drew a2).mono fun aa ad d=>(⟨d.1,a2.trans (d.2.mono a2.size),l (bt.more d.2 bt.lt)⟩:_/\Below wc.heap.size wc ad/\Hid (a4 ad wc.heap.size ⟨#[]⟩ ⟨0,0,0,0,0,0⟩ ⟨#[]⟩)));unfold bE at a8 aU;unfold bo at aU;clear bp bt a2;go_upto_region 8 with fail;go_cut [9,10,11]from 32 to 41 (fun p V cd al=>∃(a3 R X T:Nat) (S:U) (E:K),p=I a3/\V=.slice (some ⟨n,R,none⟩) X T/\cd=.bool aC.isSome/\Hid (a4 al a3 b S E/\a4 al a.heap.size b q ⟨v.toArray⟩/\a4 al (a.heap.size+1) ⟨#[]⟩ ⟨0,0,0,0,0,0⟩ ⟨#[]⟩/\Below a.heap.size a al/\a.heap.size+2<=a3)/\Hid (∀w J,aC=some (w,J)->S=w/\E=⟨J.toArray⟩/\X=(o.drop (u.ao C)).length/\X<=T/\(∀W,bc W n Q o->bc W n R (o.drop (u.ao C)))));case first=>
      go_region_with(go_at_call 310;first|((with_reducible refine a8.out.mono ?_);rintro aa ad ⟨⟨S,E,R,X,T,rfl,ab⟩,bm⟩;unfold bE)|((with_reducible refine aU.out.mono ?_);rintro aa ad ⟨⟨S,E,R,X,T,rfl,ab⟩,bm,t⟩;unfold bE;have aG:=t.out.V8;have aH:=t.out.c1;have aI:=t.out.c2;have aJ:=t.out.c3;have aK:=t.out.c4;have aL:=t.out.c5;have aM:=t.out.W4;have aN:=t.out.W5;have aO:=t.out.Xj;have aP:=t.out.Xi;have aQ:=t.out.Wb;have aS:=t.out.lt));all_goals (go_wp2_with fail;go_meet)
      all_goals first|(refine⟨ad.heap.size,R,X,T,S,E,by with_reducible rfl,rfl,rfl,?_,ab⟩;exact ajI G.out P.out k.out bm)|(refine⟨wc.heap.size,R,X,T,S,E,by with_reducible rfl,rfl,rfl,?_,ab⟩;exact ajJ G.out P.out k.out bm t.out)
     case rest=>
      obtain⟨a3,R,X,T,S,E,rfl,rfl,rfl,aE,ab⟩:=hcut;clear a8 aU am an ao ap ar au av aw ax ay az aA G P k bn bT;have G:=aE.out.2.1;have P:=aE.out.2.2.1;have t:=aE.out.1;have k:=l aE.out.2.2.2.1;have ae:=l G;have af:=l P;obtain⟨am,an,ao,ap,ar,au,av,aw,ax,ay,az,aA⟩:=id G;obtain⟨y0,y1,y2,y3,y4,ck,cl,cm,cn,co,-,-⟩:=id t;obtain⟨aG,aH,aI,aJ,aK,aL,aM,aN,aO,aP,aQ,aS⟩:=id P;clear G P t aE;cases aC with
      |none=>
       have O:Hid (N=none):=s;clear s a9 ab;go_wp2_with fail;refine ac (v:=.tuple #[bE b q ⟨v.toArray⟩,.bool false]) ro rfl ⟨⟨q,⟨v.toArray⟩,by rw[O.out]<;>rfl,l (fun w J d=>by rw[O.out]at d;cases d)⟩,?_⟩;repeat(first|with_reducible exact aq _ _|with_reducible exact k.out|(with_reducible refine bf ?_ F _)|(with_reducible refine bl ?_ F _))
      |some r=>
       obtain⟨w,J⟩:=r;obtain⟨b2,b3,b4,bb,bF⟩:=ab.out w J rfl;have bB:=a9.out _ rfl;have br:Hid (N=u.bJ ((f.data.toList.map UInt8.toNat).drop (e+1)) true w J (o.drop (u.ao C))):=s;subst b2 b3 b4;have bh:(o.drop (u.ao C)).length<=x.length:=zd;have bu:Hid (ez (o.drop (u.ao C))):=l (fun V bw=>bQ.out V (uq bw));have bv:Hid (∀W,bc W n ak x->bc W n R (o.drop (u.ao C))):=l (fun W d=>bF W (ai.out W d));obtain⟨bD,bi⟩:=y (o.drop (u.ao C));rw[<-bi]at br bh bu bv bb;rw[<-bi];clear bF s a9 ab bi;go_wp2_with fail;go_roundw;case rel=>
        first
         |exact⟨R,T,e+1,bD,S,J,by omega,bh,bb,rfl,by go_num,bv,bu,bB,l (a4.put ae.out),l (af.out.XN m),l (sn k.out (aB _) _ _ _),by rw[bd (mY e)];exact br⟩
         | ((repeat apply hC);exact⟨⟨R,T,e+1,bD,S,J,by omega,bh,bb,rfl,by go_num,bv,bu,bB,l (a4.put ae.out),l (af.out.XN m),l (sn k.out (aB _) _ _ _),by rw[bd (mY e)];exact br⟩,rfl⟩)
       case measure=>exact a5
  . have ce:decide ((e:Int)< (f.size:Int))=false:=M;rw[eQ (by rw[gT,dQ];show f.size<=e;omega)]at s;obtain⟨E,bg⟩:=y (⟨v.toArray⟩:K);rw[<-bg]at G;have bX:=l bg;clear bg;obtain⟨am,an,ao,ap,ar,au,av,aw,ax,ay,az,aA⟩:=G.out;obtain⟨aG,aH,aI,aJ,aK,aL,aM,aN,aO,aP,aQ,aS⟩:=P.out;cases A with
    |nil=>
     have ah:Hid (N=some (q,v)):=by
      show N=_;rw[s.out];simp only[u.bJ];rw[B (by simp)]
     clear s;go_wp2_with fail;refine ac (v:=.tuple #[bE b q E,.bool true]) ro rfl ⟨⟨q,E,by rw[ah.out]<;>rfl,l (fun w J d=>by rw[ah.out]at d;simp only[b6,bM]at d;obtain⟨rfl,rfl⟩:=d;exact⟨rfl,bX.out⟩)⟩,?_⟩;repeat(first|with_reducible exact aq _ _|with_reducible exact k.out|(with_reducible refine bf ?_ F _)|(with_reducible refine bl ?_ F _))
    |cons t0 LT=>
     have O:Hid (N=none):=by
      show N=_;rw[s.out];simp only[u.bJ];rw[z (by simp)]
     have ca:((LT.length:Int)+1==0)=false:=M;simp only[c9]at bs aY|-;clear s;go_wp2_with fail;refine ac (v:=.tuple #[bE b q E,.bool false]) ro rfl ⟨⟨q,E,by rw[O.out]<;>rfl,l (fun w J d=>by rw[O.out]at d;cases d)⟩,?_⟩;repeat(first|with_reducible exact aq _ _|with_reducible exact k.out|(with_reducible refine bf ?_ F _)|(with_reducible refine bl ?_ F _))
def Oa (a:Int×aC)(e:Ending):Prop:=∃(c:K) (d:U) (b:K),e=.returned (.tuple #[bE c d b,j a.1])/\Hid (a.1=0->c=⟨a.2.Xz.toArray⟩/\d=a.2.i/\b=⟨a.2.Xa.toArray⟩)
def abp (a:K)(k:a.size<=5000)(b:D):
 Calls prog 225 #[.string a] b fun j d=>∃e f,j=.returned (.slice (some ⟨e,0,none⟩) (u.tok a.size a.data.toList).length f)/\(u.tok a.size a.data.toList).length<=f/\e<d.heap.size/\Hid (bc d e 0 (u.tok a.size a.data.toList))/\Below b.heap.size b d:=by
 refine(abo a k b).mono ?_;exact MI
theorem E9 (c:List L):∀b a,1<=a->((u.db c b a).1=0↔ (u.db c b a).2=0)
 |0,a,_=>by simp[u.db]
 |b+1,a,e=>by
  have d:=E9 c b (a+1) (by omega)
  unfold u.db
  split
  . simp;omega
  . split
    . simp;omega
    . exact d
def afC (a:List L):(u.bk a).1=0↔ (u.bk a).2=0:=by
 unfold u.bk;split
 . simp
 . split
   . simp
   . exact E9 a 70 1 (aB _)
structure jK (d:D)(h c b g:Nat)(e:List (List L))(f:K)(i:U)(a:D):Prop where
 st:bc a b g e
 it:a4 a c f i ⟨#[]⟩
 rs:a4 a h ⟨#[]⟩ ⟨0,0,0,0,0,0⟩ ⟨#[]⟩
 be:Below d.heap.size d a
 YJ:b<a.heap.size
 YK:b<c
theorem jK.Yz {g e:D}{h a n l:Nat}{i:List (List L)}{k:K}(b:jK g h a n l i k ⟨0,0,0,0,0,0⟩ e)(p:h<a)(o:g.heap.size<=a)(c d:Int):jK g h a n l i k ⟨c,0,0,0,0,d⟩ ((((e.setCell ⟨a,1,none⟩ (j c)).setCell ⟨a,9,none⟩ (j d)).setCell ⟨a,2,none⟩ (j c)).setCell ⟨a,7,none⟩ (j d)):=by
 have f:Below a e ((((e.setCell ⟨a,1,none⟩ (j c)).setCell ⟨a,9,none⟩ (j d)).setCell ⟨a,2,none⟩ (j c)).setCell ⟨a,7,none⟩ (j d)):=by
  repeat(first|exact aq _ _|(refine bf ?_ F _))
 exact⟨b.st.below f b.YK,b.it.Yz c d,(((b.rs.YD m).YD m).YD m).YD m,b.be.trans (f.mono o),by have:=b.YJ;have:=f.size;omega,b.YK⟩
theorem jK.YZ {g e:D}{h b d l j:Nat}{k i:List (List L)}{n:K}(a:jK g h b d l k n ⟨0,0,0,0,0,0⟩ e)(q:h<b)(p:g.heap.size<=b)(c:K)(o:∀W,bc W d l k->bc W d j i):jK g h b d j i c ⟨0,0,0,0,0,0⟩ (e.setCell ⟨b,0,none⟩ (.string c)):=by
 have f:Below b e (e.setCell ⟨b,0,none⟩ (.string c)):=(aq _ _).setCell F _;exact⟨o _ (a.st.below f a.YK),a.it.YZ c,a.rs.YD m,a.be.trans (f.mono p),by have:=a.YJ;have:=f.size;omega,a.YK⟩
theorem abe (p:Option Addr)(bR:Nat)(ak:List aC)(cp:ak.length<=5000)(t:K)(cz:t.size<=4096)(d:D)(b0:Hid (g2 d p ak))(b5:Hid (∀bQ,p=some bQ->bQ.block<d.heap.size)):
 Calls prog 154 #[.slice p ak.length bR,.string t] d fun A bF=>Oa (u.cm (u.tok t.size t.data.toList) ak) A/\Below d.heap.size d bF:=by
 obtain⟨c,bm⟩:=y (u.tok t.size t.data.toList);have ca:t.data.toList.length=t.size:=u4;have cq:=(oc t.size t.data.toList).1;have aO:=(oc t.size t.data.toList).2;have bz:=abp t m;rw[ca,<-bm]at cq aO;rw[<-bm]at bz|-;have a2:Hid (ez c):=HC;have bO:=l bz;obtain⟨n,e⟩:=y (u.cm c ak);rw[<-e];have aQ:=l e;clear e bz aO ca bm;have bU:Below d.heap.size d (d.alloc (bo ⟨#[]⟩ aF ⟨#[]⟩)):=lT;have a1:=l bU;have bj:=l (a4.new d ⟨#[]⟩ aF ⟨#[]⟩);unfold bo aF at a1 bj;clear bU;go_enter func154,ntmps154;go_wp2_with fail;refine(bO.out _).mono ?_;rintro A ap ⟨H,cf,rfl,cb,bx,b8,bq⟩;have be:=l (a1.out.trans (bq.mono a1.out.size));have Z:=bj.out.more bq F;have ax:Hid (Below d.heap.size d (ap.alloc (bo ⟨#[]⟩ ⟨0,0,0,0,0,0⟩ ⟨#[]⟩))):=l (be.out.alloc (by have:=be.out.size;omega) _);have o:Hid (jK d d.heap.size ap.heap.size H 0 c ⟨#[]⟩ ⟨0,0,0,0,0,0⟩ (ap.alloc (bo ⟨#[]⟩ ⟨0,0,0,0,0,0⟩ ⟨#[]⟩))):=l ⟨(bc.more b8 bx ((aq _ _).alloc (aB _) _)).out,a4.new ap ⟨#[]⟩ ⟨0,0,0,0,0,0⟩ ⟨#[]⟩,Z.alloc _,ax.out,by simp;omega,bx⟩;have bA:d.heap.size<ap.heap.size:=Z.lt;obtain⟨a9,b2⟩:=y (ap.heap.size);unfold bo at o ax;clear bO a1 bj bq Z be b8 bx;go_upto_region 3 with fail;obtain⟨ba,cc⟩:=y (ap.alloc (.cells #[.string ⟨#[]⟩,j 0,j 0,j 0,j 0,j 0,j 0,j 0,.string ⟨#[]⟩,j 0] 169));rw[<-cc]at o ax|-;rw[<-b2]at o bA|-;clear cc b2;go_cut [25]from 17 to 25 (fun aW ai=>∃a0:Bool,aW=.bool a0/\ai=ba/\Hid (a0=true↔1<c.length/\c[1]?.getD []=[58]));case first=>
  by_cases B:1<c.length
  . have cg:decide (2<=(c.length:Int))=true:=M;have c1:=o.out.st 1 B;obtain⟨au,Z⟩:=y (⟨(c[1]).toArray⟩:K);have cw:ba.cell? ⟨H,1,none⟩=some (.string au):=by rw[<-eh 1,c1,Z];rfl
    have a6:c[1]?.getD []=au.data.toList:=Hx;have ce:(au.toList==[58])=decide (au.data.toList=[58]):=ha au [58];clear c1 Z;by_cases aw:au.data.toList=[58]
    . rw[bd aw]at ce;have bb:=l (cZ B (a6.trans aw));clear aw a6;go_wp2_with fail;go_meet;case rel=>exact⟨true,rfl,rfl,l ⟨fun _=>bb.out,fun _=>rfl⟩⟩
    . rw[aV aw]at ce;have bb:Hid (¬(1<c.length/\c[1]?.getD []=[58])):=l (fun a=>aw (a6.symm.trans a.2));clear aw a6;exact MZ
  . have cg:decide (2<=(c.length:Int))=false:=M;have bb:Hid (¬(1<c.length/\c[1]?.getD []=[58])):=l (fun a=>B a.1);exact MZ
 case rest=>
  obtain⟨a0,rfl,cd,aP⟩:=hcut;rw[cd];clear cd;go_upto_if 25 with fail;go_cut [6]from 25 to 45 (fun b ai=>∃(C av:Nat) (al:List (List L)) (f:K),b=.slice (some ⟨H,C,none⟩) al.length av/\al.length<=5000/\al.length<=av/\Hid (n=u.cA f.data.toList al)/\Hid (ez al)/\Hid (jK d d.heap.size a9 H C al f ⟨0,0,0,0,0,0⟩ ai));case first=>
   cases a0 with
   |true=>
    have B:1<c.length:=(aP.out.1 rfl).1;have ab:=o.out.st 0 m;obtain⟨z,ao⟩:=y (⟨(c[0]).toArray⟩:K);have cv:ba.cell? ⟨H,0,none⟩=some (.string z):=by rw[<-eh 0,ab,ao];rfl
    have b4:(c[0]'m).length<=5000:=a2.out _ (gf _);have bC:z.size<=5000:=by rw[ao];exact b4
    have bT:c[0]?.getD []=z.data.toList:=Hy;clear ab ao b4;obtain⟨C,av,a8,aS,b9⟩:=k7 H 0 cf c 2 2 rfl m cb;have bM:Hid (ez (c.drop 2)):=l (fun b bw=>a2.out b (uq bw));have b3:(c.drop 2).length<=5000:=zd;have bZ:=aP.out.1 rfl;have q:=l (cZ bZ bT);have bK:=l b9;obtain⟨bP,bn⟩:=y (c.drop 2);have ck:=l bn;rw[<-bn]at bK bM b3 a8 aS;clear bn b9 bZ bT aP;cases G:u.isName z.data.toList
    . have e:Hid (n=(5,eL)):=by
       show n=_;rw[aQ.out];exact Dd q.out.1 (by rw[q.out.2,G];decide)
      obtain⟨I,J,N,O,P,Q,S,T,V,W,X,Y⟩:=o.out.it;obtain⟨ay,az,aA,aD,aE,aG,aH,aI,aJ,aK,aL,aM⟩:=o.out.rs;go_wp2_with fail;refine(qI z bC _).mono ?_;rintro A w3 ⟨rfl,rfl⟩;rw[G];go_wp2_with fail;refine ac (v:=.tuple #[bE ⟨#[]⟩ ⟨0,0,0,0,0,0⟩ ⟨#[]⟩,j 5]) oZ rfl ⟨⟨⟨#[]⟩,⟨0,0,0,0,0,0⟩,⟨#[]⟩,by rw[e.out]<;>rfl,l (fun a=>by rw[e.out]at a;exact absurd a R)⟩,?_⟩;exact M0
    . have bs:=aa9 p bR ak cp z ba (l (b0.out.below ax.out b5.out));obtain⟨ch,hF⟩:=y (u.ca ak z.data.toList);rw[<-hF]at bs;have bD:=l hF;have bG:=l bs;clear bs hF;by_cases aZ:ch<ak.length
      . have e:Hid (n=(9,eL)):=by
         show n=_;rw[aQ.out];exact Dc q.out.1 uI uJ
        obtain⟨I,J,N,O,P,Q,S,T,V,W,X,Y⟩:=o.out.it;obtain⟨ay,az,aA,aD,aE,aG,aH,aI,aJ,aK,aL,aM⟩:=o.out.rs;go_wp2_with fail;refine(qI z bC _).mono ?_;rintro A w3 ⟨rfl,rfl⟩;rw[G];go_wp2_with fail;refine bG.out.mono ?_;rintro A w3 ⟨rfl,rfl⟩;rw[bd aZ];go_wp2_with fail;refine ac (v:=.tuple #[bE ⟨#[]⟩ ⟨0,0,0,0,0,0⟩ ⟨#[]⟩,j 9]) oZ rfl ⟨⟨⟨#[]⟩,⟨0,0,0,0,0,0⟩,⟨#[]⟩,by rw[e.out]<;>rfl,l (fun a=>by rw[e.out]at a;exact absurd a R)⟩,?_⟩;exact M0
      . have HR:Hid (n=u.cA z.data.toList bP):=by
         show n=_;rw[aQ.out,ck.out,<-q.out.2];exact De q.out.1 uI uJ
        obtain⟨I,J,N,O,P,Q,S,T,V,W,X,Y⟩:=o.out.it;go_wp2_with fail;refine(qI z bC _).mono ?_;rintro A w3 ⟨rfl,rfl⟩;rw[G];go_wp2_with fail;refine bG.out.mono ?_;rintro A w3 ⟨rfl,rfl⟩;rw[aV aZ];go_wp2_with fail;go_meet;case rel=>exact⟨C,av,bP,z,rfl,b3,aS,HR,bM,l (o.out.YZ bA m z bK.out)⟩
   |false=>
    have HR:Hid (n=u.cA [] c):=by
     show n=_;rw[aQ.out];exact xf (fun a=>by have:=aP.out.2 a;cases this)
    clear aP;go_wp2_with fail;go_meet;case rel=>exact⟨0,cf,c,⟨#[]⟩,rfl,by omega,cb,HR,a2,o⟩
  case rest=>
   obtain⟨C,av,al,f,rfl,cs,aS,HR,cn,ad⟩:=hcut;have ar:=l ad.out.be;clear aQ a2 o ax b0 b5;cases al with
   |nil=>
    have e:Hid (n=(0,⟨f.data.toList,aF,[]⟩)):=HR;obtain⟨I,J,N,O,P,Q,S,T,V,W,X,Y⟩:=ad.out.it;obtain⟨ay,az,aA,aD,aE,aG,aH,aI,aJ,aK,aL,aM⟩:=ad.out.rs;clear HR;go_wp2_with fail;refine ac (v:=.tuple #[bE f ⟨0,0,0,0,0,0⟩ ⟨#[]⟩,j 0]) oZ rfl ⟨⟨f,⟨0,0,0,0,0,0⟩,⟨#[]⟩,by rw[e.out]<;>rfl,l (fun _=>by rw[e.out];exact⟨(hf f).symm,rfl,rfl⟩)⟩,?_⟩;repeat(first|with_reducible exact aq _ _|with_reducible exact ar.out|(with_reducible refine bf ?_ rp _)|(with_reducible refine bl ?_ rq _)|(with_reducible refine fG ?_))
   |cons b LT=>
    have ab:=ad.out.st 0 F;obtain⟨bk,aN⟩:=y (⟨b.toArray⟩:K);have d0:wc.cell? ⟨H,C,none⟩=some (.string bk):=Hz;have bX:bk.data.toList=b:=by rw[aN]
    have aU:=abd bk;rw[bX]at aU;obtain⟨cu,co,b7,bY,bv⟩:=k7 H C av (b::LT) 1 1 rfl F aS;simp only[oU,jt]at b7 bY bv;obtain⟨a5,w⟩:=y (u.bk b);have a7:a5.1<=72:=ze;have bp:a5.1=0↔a5.2=0:=by rw[w];exact afC b
    rw[<-w]at aU;obtain⟨h,an⟩:=a5;simp only at a7 bp aU;have bh:=l aU;have ag:=l w;have bi:=l bp;have bL:=l bv;simp only[c9]at cs aS b7|-;have cy:((LT.length:Int)+1==0)=false:=M;clear ab aN bX aU w bp bv;by_cases bB:h=0
    . have e:Hid (n=(5,eL)):=by
       show n=_;rw[HR.out];exact s5 _ _ _ (by rw[<-ag.out];exact bi.out.1 bB)
      subst bB;clear HR;obtain⟨I,J,N,O,P,Q,S,T,V,W,X,Y⟩:=ad.out.it;obtain⟨ay,az,aA,aD,aE,aG,aH,aI,aJ,aK,aL,aM⟩:=ad.out.rs;go_wp2_with fail;refine(bh.out _).mono ?_;rintro A w3 ⟨rfl,rfl⟩;go_wp2_with fail;refine ac (v:=.tuple #[bE f ⟨0,0,0,0,0,0⟩ ⟨#[]⟩,j 5]) oZ rfl ⟨⟨f,⟨0,0,0,0,0,0⟩,⟨#[]⟩,by rw[e.out]<;>rfl,l (fun a=>by rw[e.out]at a;exact absurd a R)⟩,?_⟩;repeat(first|with_reducible exact aq _ _|with_reducible exact ar.out|(with_reducible refine bf ?_ rp _)|(with_reducible refine bl ?_ rq _)|(with_reducible refine fG ?_))
    . have cx:((h:Int)==0)=false:=M;have bW:∀af,af=u.bJ (u.eN h) false ⟨h,0,0,0,0,an⟩ [] LT->(af=none->n=(6,eL))/\(∀i g,af=some (i,g)->n=(0,⟨f.data.toList,i,g⟩)):=by
       intro af k;have aj:(u.bk b).1=h:=m4;have v:(u.bk b).2=an:=m4;have bS:¬an=0:=fun a=>bB (bi.out.2 a);refine⟨fun a=>?_,fun i g a=>?_⟩
       . rw[HR.out];exact s4 _ _ _ (by rw[v];exact bS) uN
       . rw[HR.out];exact s6 _ _ _ (by rw[v];exact bS) uN
      obtain⟨x,hS⟩:=y (Nm.shape h);have b6:=(k5 h a7).1;have a8:=(k5 h a7).2;have bt:=Vj h a7;rw[<-hS]at b6 bt;have cl:Hid (∀am (a:am<x.size),x[am].toNat=100\/x[am].toNat=115\/x[am].toNat=116\/x[am].toNat=109\/x[am].toNat=106\/x[am].toNat=117\/x[am].toNat=105):=by rw[hS];exact l a8
      have cj:=l bt;obtain⟨af,k⟩:=y (u.bJ (x.data.toList.map UInt8.toNat) false ⟨h,0,0,0,0,an⟩ [] LT);have a3:=l (bW af (by rw[k,hS];rfl));have bI:=l k;have bu:=Es (h:Int);have bV:Nm.shape (h:Int)=x:=hS.symm;rw[bV]at bu;have bN:=l bu;clear bW a8 bt k hS bV bu HR ag bi;have bJ:=l (ad.out.Yz bA m h an);obtain⟨I,J,N,O,P,Q,S,T,V,W,X,Y⟩:=ad.out.it;go_wp2_with fail;refine(bh.out _).mono ?_;rintro A w3 ⟨rfl,rfl⟩;go_upto_region 21 with fail;go_cut [12]from 70 to 71 (fun aW ai=>aW=.string x/\Hid (jK d d.heap.size a9 H C (b::LT) f ⟨h,0,0,0,0,an⟩ ai));case first=>
       go_wp2_with(go_at_call 151;refine(bN.out _).mono ?_;rintro A bF ⟨rfl,rfl⟩);go_meet;case rel=>exact⟨rfl,bJ⟩
      case rest=>
       obtain⟨rfl,E⟩:=hcut;clear I J N O P Q S T V W X Y d0 bJ ad ar bh bN;have ah:Below wc.heap.size wc wc.drew:=(aq _ _).drew;have br:=abc f ⟨h,0,0,0,0,an⟩ [] x b6 cl cj (l rfl) H cu co LT m bY wc.drew (bc.more (l (bL.out _ E.out.st)) E.out.YJ ah) (aR E.out.YJ ah.size) (l (fun b bw=>cn.out b (rh _ bw)));rw[<-bI.out]at br;have bg:=l (br.mono fun A w3 a=>(⟨a.1,l (E.out.be.trans ((ah.trans (a.2.mono ah.size)).mono E.out.be.size)),l (E.out.it.more (ah.trans (a.2.mono ah.size)) E.out.it.lt),l (E.out.rs.more (ah.trans (a.2.mono ah.size)) E.out.rs.lt)⟩:_/\Hid (Below d.heap.size d w3)/\Hid (a4 w3 a9 f ⟨h,0,0,0,0,an⟩ ⟨#[]⟩)/\Hid (a4 w3 d.heap.size ⟨#[]⟩ ⟨0,0,0,0,0,0⟩ ⟨#[]⟩)));unfold bE at bg;clear br ah bL bI;obtain⟨I,J,N,O,P,Q,S,T,V,W,X,Y⟩:=E.out.it;go_upto_region 22 with fail;go_cut [13]from 72 to 79 (fun aW ai=>∃(ae:U) (aa:K),aW=.bool af.isSome/\Hid (a4 ai a9 f ae aa)/\Hid (a4 ai d.heap.size ⟨#[]⟩ ⟨0,0,0,0,0,0⟩ ⟨#[]⟩)/\Hid (Below d.heap.size d ai)/\Hid (∀aX aY,af=some (aX,aY)->ae=aX/\aa=⟨aY.toArray⟩));case first=>
        go_region_with(go_at_call 229;refine bg.out.mono ?_;rintro A w3 ⟨⟨ae,aa,rfl,aT⟩,cr,s,ct⟩;unfold bE;have ay:=s.out.V8;have az:=s.out.c1;have aA:=s.out.c2;have aD:=s.out.c3;have aE:=s.out.c4;have aG:=s.out.c5;have aH:=s.out.W4;have aI:=s.out.W5;have aJ:=s.out.Xj;have aK:=s.out.Xi;have aL:=s.out.Wb;have aM:=s.out.lt);all_goals (go_wp2_with fail;go_meet)
        all_goals exact⟨ae,aa,rfl,l (a4.put s.out),l (ct.out.XN m),l (sn cr.out m _ _ _),aT⟩
       case rest=>
        obtain⟨ae,aa,rfl,ci,cm,ar,aT⟩:=hcut;clear I J N O P Q S T V W X Y bg E;obtain⟨I,J,N,O,P,Q,S,T,V,W,X,Y⟩:=ci.out;obtain⟨ay,az,aA,aD,aE,aG,aH,aI,aJ,aK,aL,aM⟩:=cm.out;cases af with
        |none=>
         have e:=l (a3.out.1 rfl);clear a3 aT;go_wp2_with fail;refine ac (v:=.tuple #[bE f ae aa,j 6]) oZ rfl ⟨⟨f,ae,aa,by rw[e.out]<;>rfl,l (fun a=>by rw[e.out]at a;exact absurd a R)⟩,?_⟩;repeat(first|with_reducible exact aq _ _|with_reducible exact ar.out|(with_reducible refine bf ?_ rp _)|(with_reducible refine bl ?_ rq _)|(with_reducible refine fG ?_))
        |some r=>
         obtain⟨aX,aY⟩:=r;have e:=l (a3.out.2 aX aY rfl);have b1:=aT.out aX aY rfl;have bH:=l b1;clear a3 aT b1;go_wp2_with fail;refine ac (v:=.tuple #[bE f ae aa,j 0]) oZ rfl ⟨⟨f,ae,aa,by rw[e.out]<;>rfl,l (fun _=>by rw[e.out];exact⟨(hf f).symm,bH.out.1,bH.out.2⟩)⟩,?_⟩;repeat(first|with_reducible exact aq _ _|with_reducible exact ar.out|(with_reducible refine bf ?_ rp _)|(with_reducible refine bl ?_ rq _)|(with_reducible refine fG ?_))
end Go.Proofs.YtmlgonbhoknoiaaGreatDoor
