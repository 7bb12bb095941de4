import Derived.Test.YtmlgonbhoknoiabGreatDoorJBM
set_option maxHeartbeats 8000000
set_option maxRecDepth 100000
set_option linter.all false
namespace Go.Proofs.YtmlgonbhoknoiabGreatDoor
open Go.RowKit Go.Proofs.Tryz
def jk (d:D)(a:Nat)(c:K)(i:U)(b:K):D:=
 (((((((((d.setCell ⟨a,0,none⟩ (.string c)).setCell ⟨a,1,none⟩ (j i.op)).setCell ⟨a,2,none⟩ (j i.op)).setCell ⟨a,3,none⟩ (j i.rd)).setCell ⟨a,4,none⟩ (j i.V1)).setCell ⟨a,5,none⟩ (j i.V6)).setCell ⟨a,6,none⟩ (j i.V2)).setCell ⟨a,7,none⟩ (j i.V4)).setCell ⟨a,8,none⟩ (.string b)).setCell ⟨a,9,none⟩ (j i.V4)
def a3.put {e:D}{a:Nat}{t f c b:K}{i d:U}(u:a3 e a t i f):a3 (jk e a c d b) a c d b:=by
 obtain⟨g,h,j,k,l,m,n,o,p,q,r,s⟩:=id u;unfold jk;exact Nh
def sN {a:Nat}{d b:D}(e:Below a d b){c:Nat}(f:a<=c)(h:K)(i:U)(g:K):Below a d (jk b c h i g):=by
 unfold jk;exact MP
def a3.XN {f:D}{a c:Nat}{e d v u:K}{i w:U}(y:a3 f a e i d)(b:a≠c):a3 (jk f c v w u) a e i d:=by
 obtain⟨g,h,j,k,l,m,n,o,p,q,s,t⟩:=id y;have r:¬c=a:=fun x=>b x.symm;unfold jk;exact Ni
def Ox (f:K)(b:Option (U×List L))(g:Ending):Prop:=∃(c:U) (a:K),g=.returned (.tuple #[bC f c a,.bool b.isSome])/\Hid (∀d e,b=some (d,e)->c=d/\a=⟨e.toArray⟩)
theorem To (i:U)(g:List L)(b:Nat)(c:List (List L))(f:b=100\/b=115\/b=116)(e:U×List L)(a:u.ca i g b c=some e):e.1.V2=i.V2:=by
 unfold u.ca at a;rw[B f]at a;unfold u.fR at a;cases d:u.cq (c[0]?.getD [])with
 |none=>rw[d]at a;simp at a
 |some r=>
  rw[d]at a;simp only[gQ,b5]at a;rw[<-a];show(if b=100 then _ else _:U).V2=_;repeat(first|rfl|split)
def UY :((List.range 73).all fun a=>(List.range 8).all fun c=>(List.range c).all fun b=>decide (((Nm.shape a).data.toList.map UInt8.toNat)[c]?=some 106->((Nm.shape a).data.toList.map UInt8.toNat)[b]?=some 100\/((Nm.shape a).data.toList.map UInt8.toNat)[b]?=some 115\/((Nm.shape a).data.toList.map UInt8.toNat)[b]?=some 116))=true:=by decide+kernel
def wk (b:K):Prop:=∀c a,c<8->a<c->(b.data.toList.map UInt8.toNat)[c]?=some 106->(b.data.toList.map UInt8.toNat)[a]?=some 100\/(b.data.toList.map UInt8.toNat)[a]?=some 115\/(b.data.toList.map UInt8.toNat)[a]?=some 116
def UW (a:Nat)(i:a<=72):wk (Nm.shape a):=by
 intro g b j h f;have c:=cX.1 UY a ad;have d:=cX.1 c g ad;have e:=cX.1 d b ad;exact of_decide_eq_true e f
def Ef (b:K)(a:Nat)(c:a<b.size):(b.data.toList.map UInt8.toNat)[a]?=some b[a].toNat:=by
 have d:a<b.data.toList.length:=by rw[dP];exact c
 rw[rg,fa d];rfl
def nn (c:K)(b:Nat)(i:U):Prop:=∀a,b<=a->a<8->(c.data.toList.map UInt8.toNat)[a]?=some 106->i.V2=0
def nn.next {b:K}{a:Nat}{i e:U}{g y:List L}{c:Nat}{f:List (List L)}(o:wk b)(l:nn b a i)(p:a<b.size)(q:c=b[a].toNat)(r:u.ca i g c f=some (e,y)):nn b (a+1) e:=by
 intro k s h j;have d:=o k a h m j;rw[Ef b a p,<-q]at d;simp only[b5]at d;have n:=To i g c f d (e,y) r;rw[n];exact l k m h j
def C9 {d:List Nat}{c:Nat}{a:Nat}{i:U}{g:List L}{b:List (List L)}(f:0<a)(e:¬b[0]?.getD []=[44]):u.bH (c::d) (decide (0<a)) i g b=none:=by
 rw[bc f];simp only[u.bH];rw[B ⟨trivial,e⟩]
def Tw {e:List Nat}{d:Nat}{a:Nat}{i:U}{g:List L}{c:List (List L)}(h:0<a->c[0]?.getD []=[44]):u.bH (d::e) (decide (0<a)) i g c=match u.ca i g d (c.drop (if 0<a then 1 else 0))with|none=>none|some (j,k)=>u.bH e true j k ((c.drop (if 0<a then 1 else 0)).drop (u.ao d)):=by
 by_cases b:0<a
 . have:=h b;rw[bc b,B b];simp only[u.bH,if_true];rw[z (fun f=>f.2 this),lp];rfl
 . rw[aU b,z b];simp only[u.bH,eh,o3,cP];rw[lp,eg];rfl
def ai4 {a wc b:D}{j e h c:K}{i d:U}(l:a3 wc a.heap.size j i h)(g:a3 wc (a.heap.size+1) ⟨#[]⟩ ⟨0,0,0,0,0,0⟩ ⟨#[]⟩)(k:Below a.heap.size a wc)(n:Below wc.heap.size wc.drew b):
 Hid (a3 (b.alloc (bn e d c)) b.heap.size e d c/\a3 (b.alloc (bn e d c)) a.heap.size j i h/\a3 (b.alloc (bn e d c)) (a.heap.size+1) ⟨#[]⟩ ⟨0,0,0,0,0,0⟩ ⟨#[]⟩/\Below a.heap.size a (b.alloc (bn e d c))/\a.heap.size+2<=b.heap.size):=by
 have f:Below wc.heap.size wc b:=(aq _ _).drew.trans n;have o:=g.lt;have p:=f.size;exact⟨a3.new _ _ _ _,(l.more f l.lt).alloc _,(g.more f g.lt).alloc _,(k.trans (f.mono k.size)).alloc m _,by omega⟩
def ai5 {a wc b:D}{j e h c:K}{i d:U}(l:a3 wc a.heap.size j i h)(g:a3 wc (a.heap.size+1) ⟨#[]⟩ ⟨0,0,0,0,0,0⟩ ⟨#[]⟩)(k:Below a.heap.size a wc)(f:Below wc.heap.size wc b)(n:a3 b wc.heap.size ⟨#[]⟩ ⟨0,0,0,0,0,0⟩ ⟨#[]⟩):
 Hid (a3 (jk b wc.heap.size e d c) wc.heap.size e d c/\a3 (jk b wc.heap.size e d c) a.heap.size j i h/\a3 (jk b wc.heap.size e d c) (a.heap.size+1) ⟨#[]⟩ ⟨0,0,0,0,0,0⟩ ⟨#[]⟩/\Below a.heap.size a (jk b wc.heap.size e d c)/\a.heap.size+2<=wc.heap.size):=by
 have o:=g.lt;exact⟨n.put,(l.more f l.lt).XN m,(g.more f g.lt).XN m,sN (k.trans (f.mono k.size)) m _ _ _,by omega⟩
theorem aay (b:K)(i:U)(g:List L)(f:K)(cj:f.size<=8)(b9:Hid (∀H (d:H<f.size),f[H].toNat=100\/f[H].toNat=115\/f[H].toNat=116\/f[H].toNat=109\/f[H].toNat=106\/f[H].toNat=117\/f[H].toNat=105))(b8:Hid (wk f))(b7:Hid (i.V2=0))
 (n ak ba:Nat) (x:List (List L)) (cg:x.length<=5000) (b6:x.length<=ba) (a:D) (bS:Hid (bb a n ak x)) (bl:n<a.heap.size) (cb:Hid (ez x)):
 Calls prog 235 #[bC b i ⟨g.toArray⟩,.string f,.slice (some ⟨n,ak,none⟩) x.length ba] a fun aa a6=>Ox b (u.bH (f.data.toList.map UInt8.toNat) false i g x) aa/\Below a.heap.size a a6:=by
 obtain⟨N,ah⟩:=y (u.bH (f.data.toList.map UInt8.toNat) false i g x);rw[<-ah];have bD:=l ah;clear ah;obtain⟨c,bf⟩:=y (⟨g.toArray⟩:K);rw[<-bf];have bz:Below a.heap.size a ((a.alloc (bn b i c)).alloc (bn ⟨#[]⟩ aF ⟨#[]⟩)):=pA;have bI:a3 ((a.alloc (bn b i c)).alloc (bn ⟨#[]⟩ aF ⟨#[]⟩)) (a.heap.size+1) ⟨#[]⟩ aF ⟨#[]⟩:=by
  have d:=a3.new (a.alloc (bn b i c)) ⟨#[]⟩ aF ⟨#[]⟩;simpa using d
 have bJ:a3 ((a.alloc (bn b i c)).alloc (bn ⟨#[]⟩ aF ⟨#[]⟩)) a.heap.size b i c:=zE;have a7:=l bz;have ae:=l bI;have af:=l bJ;have bA:=l bf;unfold bn aF at a7 ae af;clear bz bI bJ bf;unfold bC;go_enter func235,ntmps235;go_wp2_with fail;go_loopw [2,8] (fun V H wr=>∃(Y aD e:Nat) (A:List (List L)) (q:U) (v:List L),e<=f.size/\A.length<=x.length/\A.length<=aD/\V=.slice (some ⟨n,Y,none⟩) A.length aD/\H=j e/\Hid (∀W,bb W n ak x->bb W n Y A)/\Hid (ez A)/\Hid (nn f e q)/\Hid (a3 wr a.heap.size b q ⟨v.toArray⟩)/\Hid (a3 wr (a.heap.size+1) ⟨#[]⟩ ⟨0,0,0,0,0,0⟩ ⟨#[]⟩)/\Hid (Below a.heap.size a wr)/\Hid (N=u.bH ((f.data.toList.map UInt8.toNat).drop e) (decide (0<e)) q v A)) (fun _ H _=>f.size- (intOf H).toNat);case atStart=>exact⟨ak,ba,0,x,i,g,by omega,by omega,b6,rfl,rfl,l (fun _ d=>d),cb,l (fun _ _ _ _=>b7.out),by rw[<-bA.out];exact af,ae,a7,by simpa using bD⟩
 case round=>
  obtain⟨Y,aD,e,A,q,v,cf,bs,aY,rfl,rfl,a1,cc,bP,G,P,k,s⟩:=hrel;clear a7 ae af bA bD;by_cases a0:e<f.size
  . rw[sS f e a0]at s;obtain⟨C,aX⟩:=y (f[e].toNat);rw[<-aX]at s;have bq:=b9.out e a0;rw[<-aX]at bq;have aT:=l aX;have bW:=l bq;clear aX bq;have bU:Hid (bb wr n Y A):=bb.more (l (a1.out _ bS.out)) bl k.out;have bo:n<wr.heap.size:=aQ bl k.out.size;go_upto_if 19 with fail;go_cut [2]from 19 to 31 (fun V al=>∃(Q Z:Nat) (o:List (List L)),V=.slice (some ⟨n,Q,none⟩) o.length Z/\al=wr/\o.length<=x.length/\o.length<=Z/\Hid (o=A.drop (if 0<e then 1 else 0))/\Hid (0<e->A[0]?.getD []=[44])/\Hid (∀W,bb W n ak x->bb W n Q o));case first=>
     by_cases h:0<e
     . have bx:decide (0<e)=true:=nm;cases A with
       |nil=>
        have O:Hid (N=none):=by
         show N=none;rw[s.out];exact C9 h F
        clear s;obtain⟨am,an,ao,ap,ar,au,av,aw,ax,ay,az,aA⟩:=G.out;obtain⟨aG,aH,aI,aJ,aK,aL,aM,aN,aO,aP,aR,aS⟩:=P.out;go_wp2_with fail;refine ab (v:=.tuple #[bC b q ⟨v.toArray⟩,.bool false]) rO rfl ⟨⟨q,⟨v.toArray⟩,by rw[O.out]<;>rfl,l (fun w J d=>by rw[O.out]at d;cases d)⟩,?_⟩;repeat(first|with_reducible exact aq _ _|with_reducible exact k.out|(with_reducible refine bd ?_ F _)|(with_reducible refine bk ?_ F _))
       |cons t0 LT=>
        have bL:=bU.out 0 F;obtain⟨ag,bj⟩:=y (⟨t0.toArray⟩:K);have d0:wr.cell? ⟨n,Y,none⟩=some (.string ag):=by rw[<-di Y,bL,bj];rfl
        have f0:ag.data.toList=t0:=by rw[bj]
        have bV:(ag.toList==[44])=decide (ag.data.toList=[44]):=g9 ag [44];obtain⟨Q,Z,bR,aZ,ai⟩:=k7 n Y aD (t0::LT) 1 1 rfl F aY;simp only[o8,jw]at bR aZ ai;simp only[c6]at bR bs aY|-;have b1:=l ai;have ca:((LT.length:Int)+1==0)=false:=M;clear bL bj ai;by_cases aj:ag.data.toList=[44]
        . rw[bc aj]at bV;have b0:Hid (t0=[44]):=by rw[<-f0];exact l aj
          have bZ:=l h;clear aj f0;go_wp2_with fail;go_meet;case rel=>exact⟨Q,Z,LT,rfl,rfl,by omega,aZ,by rw[B bZ.out];exact l rfl,l (fun _=>by rw[b0.out];rfl),l (fun W d=>b1.out W (a1.out W d))⟩
        . rw[aU aj]at bV;have O:Hid (N=none):=by
           show N=none;rw[s.out];exact C9 h (by rw[<-f0];exact aj)
          clear aj f0 s;obtain⟨am,an,ao,ap,ar,au,av,aw,ax,ay,az,aA⟩:=G.out;obtain⟨aG,aH,aI,aJ,aK,aL,aM,aN,aO,aP,aR,aS⟩:=P.out;go_wp2_with fail;refine ab (v:=.tuple #[bC b q ⟨v.toArray⟩,.bool false]) rO rfl ⟨⟨q,⟨v.toArray⟩,by rw[O.out]<;>rfl,l (fun w J d=>by rw[O.out]at d;cases d)⟩,?_⟩;exact v7
     . have bx:decide (0<e)=false:=nm;have bY:=l h;obtain rfl:e=0:=by omega
       clear h bx;go_wp2_with fail;go_meet;case rel=>exact⟨Y,aD,A,rfl,rfl,bs,aY,l (by rw[z (by omega)];rfl),l (fun d=>absurd d bY.out),a1⟩
    case rest=>
     obtain⟨Q,Z,o,rfl,rfl,ci,aZ,bN,bM,ai⟩:=hcut;rw[Tw bM.out,<-bN.out]at s;have bQ:Hid (ez o):=by rw[bN.out];exact l (fun V bw=>cc.out V (uM bw))
     have bT:Hid (bb wc n Q o):=bb.more (l (ai.out _ bS.out)) bl k.out;obtain⟨aC,aW⟩:=y (u.ca q v C o);rw[<-aW]at s;have bO:C=106->q.V2=0:=fun d=>bP.out e (aB _) m (by rw[Ef f e a0,<-aT.out,d]);have bp:∀W:D,Below wc.heap.size wc W->Calls prog 317 #[bC b q ⟨v.toArray⟩,.int .u8 C,.slice (some ⟨n,Q,none⟩) o.length Z] W fun aa a6=>sD b aC n Q o (o.drop (u.ao C)) aa/\Below W.heap.size W a6:=by
      intro W bH;have d:=aaw b v q C bW.out bO n Q Z o m aZ W (bb.more bT bo bH) (aQ bo bH.size) bQ;rw[<-aW]at d;exact d
     have bG:∀w,aC=some w->Hid (nn f (e+1) w.1):=fun w d=>l (nn.next (y:=w.2) b8.out bP.out a0 aT.out (by rw[<-aW];exact d));have a9:=l bG;have ch:f[e].toNat=C:=aT.out.symm;clear bG aW bM aT bO a1 bU;obtain⟨am,an,ao,ap,ar,au,av,aw,ax,ay,az,aA⟩:=G.out;have a8:=l ((bp wc.drew (aq _ _).drew).mono fun aa ad d=>(⟨d.1,d.2⟩:_/\Below wc.heap.size wc.drew ad));have bt:=(a3.new wc ⟨#[]⟩ ⟨0,0,0,0,0,0⟩ ⟨#[]⟩).more (w':=(wc.alloc (bn ⟨#[]⟩ ⟨0,0,0,0,0,0⟩ ⟨#[]⟩)).drew) (n:=wc.heap.size+1) ((aq _ _).drew) m;have a2:Below wc.heap.size wc (wc.alloc (bn ⟨#[]⟩ ⟨0,0,0,0,0,0⟩ ⟨#[]⟩)).drew:=HQ;have aV:=l ((bp (wc.alloc (bn ⟨#[]⟩ ⟨0,0,0,0,0,0⟩ ⟨#[]⟩)).drew a2).mono fun aa ad d=>(⟨d.1,a2.trans (d.2.mono a2.size),l (bt.more d.2 bt.lt)⟩:_/\Below wc.heap.size wc ad/\Hid (a3 ad wc.heap.size ⟨#[]⟩ ⟨0,0,0,0,0,0⟩ ⟨#[]⟩)));unfold bC at a8 aV;unfold bn at aV;clear bp bt a2;go_upto_region 8 with fail;go_cut [9,10,11]from 32 to 41 (fun p V cd al=>∃(a5 R X T:Nat) (S:U) (E:K),p=I a5/\V=.slice (some ⟨n,R,none⟩) X T/\cd=.bool aC.isSome/\Hid (a3 al a5 b S E/\a3 al a.heap.size b q ⟨v.toArray⟩/\a3 al (a.heap.size+1) ⟨#[]⟩ ⟨0,0,0,0,0,0⟩ ⟨#[]⟩/\Below a.heap.size a al/\a.heap.size+2<=a5)/\Hid (∀w J,aC=some (w,J)->S=w/\E=⟨J.toArray⟩/\X=(o.drop (u.ao C)).length/\X<=T/\(∀W,bb W n Q o->bb W n R (o.drop (u.ao C)))));case first=>
      go_region_with(go_at_call 317;first|((with_reducible refine a8.out.mono ?_);rintro aa ad ⟨⟨S,E,R,X,T,rfl,ac⟩,bm⟩;unfold bC)|((with_reducible refine aV.out.mono ?_);rintro aa ad ⟨⟨S,E,R,X,T,rfl,ac⟩,bm,t⟩;unfold bC;have aG:=t.out.V8;have aH:=t.out.c1;have aI:=t.out.c2;have aJ:=t.out.c3;have aK:=t.out.c4;have aL:=t.out.c5;have aM:=t.out.W4;have aN:=t.out.W5;have aO:=t.out.Xj;have aP:=t.out.Xi;have aR:=t.out.Wb;have aS:=t.out.lt));all_goals (go_wp2_with fail;go_meet)
      all_goals first|(refine⟨ad.heap.size,R,X,T,S,E,by with_reducible rfl,rfl,rfl,?_,ac⟩;exact ai4 G.out P.out k.out bm)|(refine⟨wc.heap.size,R,X,T,S,E,by with_reducible rfl,rfl,rfl,?_,ac⟩;exact ai5 G.out P.out k.out bm t.out)
     case rest=>
      obtain⟨a5,R,X,T,S,E,rfl,rfl,rfl,aE,ac⟩:=hcut;clear a8 aV am an ao ap ar au av aw ax ay az aA G P k bo bT;have G:=aE.out.2.1;have P:=aE.out.2.2.1;have t:=aE.out.1;have k:=l aE.out.2.2.2.1;have ae:=l G;have af:=l P;obtain⟨am,an,ao,ap,ar,au,av,aw,ax,ay,az,aA⟩:=id G;obtain⟨y0,y1,y2,y3,y4,ck,cl,cm,cn,co,-,-⟩:=id t;obtain⟨aG,aH,aI,aJ,aK,aL,aM,aN,aO,aP,aR,aS⟩:=id P;clear G P t aE;cases aC with
      |none=>
       have O:Hid (N=none):=s;clear s a9 ac;go_wp2_with fail;refine ab (v:=.tuple #[bC b q ⟨v.toArray⟩,.bool false]) rO rfl ⟨⟨q,⟨v.toArray⟩,by rw[O.out]<;>rfl,l (fun w J d=>by rw[O.out]at d;cases d)⟩,?_⟩;repeat(first|with_reducible exact aq _ _|with_reducible exact k.out|(with_reducible refine bd ?_ F _)|(with_reducible refine bk ?_ F _))
      |some r=>
       obtain⟨w,J⟩:=r;obtain⟨b2,b3,b4,be,bF⟩:=ac.out w J rfl;have bB:=a9.out _ rfl;have br:Hid (N=u.bH ((f.data.toList.map UInt8.toNat).drop (e+1)) true w J (o.drop (u.ao C))):=s;subst b2 b3 b4;have bh:(o.drop (u.ao C)).length<=x.length:=zz;have bu:Hid (ez (o.drop (u.ao C))):=l (fun V bw=>bQ.out V (uM bw));have bv:Hid (∀W,bb W n ak x->bb W n R (o.drop (u.ao C))):=l (fun W d=>bF W (ai.out W d));obtain⟨bE,bi⟩:=y (o.drop (u.ao C));rw[<-bi]at br bh bu bv be;rw[<-bi];clear bF s a9 ac bi;go_wp2_with fail;go_roundw;case rel=>
        first
         |exact⟨R,T,e+1,bE,S,J,by omega,bh,be,rfl,by go_num,bv,bu,bB,l (a3.put ae.out),l (af.out.XN m),l (sN k.out (aB _) _ _ _),by rw[bc (m0 e)];exact br⟩
         | ((repeat apply hB);exact⟨⟨R,T,e+1,bE,S,J,by omega,bh,be,rfl,by go_num,bv,bu,bB,l (a3.put ae.out),l (af.out.XN m),l (sN k.out (aB _) _ _ _),by rw[bc (m0 e)];exact br⟩,rfl⟩)
       case measure=>exact a4
  . have ce:decide ((e:Int)< (f.size:Int))=false:=M;rw[eQ (by rw[gS,dP];show f.size<=e;omega)]at s;obtain⟨E,bg⟩:=y (⟨v.toArray⟩:K);rw[<-bg]at G;have bX:=l bg;clear bg;obtain⟨am,an,ao,ap,ar,au,av,aw,ax,ay,az,aA⟩:=G.out;obtain⟨aG,aH,aI,aJ,aK,aL,aM,aN,aO,aP,aR,aS⟩:=P.out;cases A with
    |nil=>
     have ah:Hid (N=some (q,v)):=by
      show N=_;rw[s.out];simp only[u.bH];rw[B (by simp)]
     clear s;go_wp2_with fail;refine ab (v:=.tuple #[bC b q E,.bool true]) rO rfl ⟨⟨q,E,by rw[ah.out]<;>rfl,l (fun w J d=>by rw[ah.out]at d;simp only[b5,bK]at d;obtain⟨rfl,rfl⟩:=d;exact⟨rfl,bX.out⟩)⟩,?_⟩;repeat(first|with_reducible exact aq _ _|with_reducible exact k.out|(with_reducible refine bd ?_ F _)|(with_reducible refine bk ?_ F _))
    |cons t0 LT=>
     have O:Hid (N=none):=by
      show N=_;rw[s.out];simp only[u.bH];rw[z (by simp)]
     have ca:((LT.length:Int)+1==0)=false:=M;simp only[c6]at bs aY|-;clear s;go_wp2_with fail;refine ab (v:=.tuple #[bC b q E,.bool false]) rO rfl ⟨⟨q,E,by rw[O.out]<;>rfl,l (fun w J d=>by rw[O.out]at d;cases d)⟩,?_⟩;repeat(first|with_reducible exact aq _ _|with_reducible exact k.out|(with_reducible refine bd ?_ F _)|(with_reducible refine bk ?_ F _))
def Oy (a:Int×aC)(e:Ending):Prop:=∃(c:K) (d:U) (b:K),e=.returned (.tuple #[bC c d b,j a.1])/\Hid (a.1=0->c=⟨a.2.Xz.toArray⟩/\d=a.2.i/\b=⟨a.2.Xa.toArray⟩)
def aaL (a:K)(k:a.size<=5000)(b:D):
 Calls prog 231 #[.string a] b fun j d=>∃e f,j=.returned (.slice (some ⟨e,0,none⟩) (u.tok a.size a.data.toList).length f)/\(u.tok a.size a.data.toList).length<=f/\e<d.heap.size/\Hid (bb d e 0 (u.tok a.size a.data.toList))/\Below b.heap.size b d:=by
 refine(aaK a k b).mono ?_;exact M2
theorem Fv (c:List L):∀b a,1<=a->((u.c8 c b a).1=0↔ (u.c8 c b a).2=0)
 |0,a,_=>by simp[u.c8]
 |b+1,a,e=>by
  have d:=Fv c b (a+1) (by omega)
  unfold u.c8
  split
  . simp;omega
  . split
    . simp;omega
    . exact d
def aeY (a:List L):(u.bj a).1=0↔ (u.bj a).2=0:=by
 unfold u.bj;split
 . simp
 . split
   . simp
   . exact Fv a 70 1 (aB _)
structure jO (d:D)(h c b g:Nat)(e:List (List L))(f:K)(i:U)(a:D):Prop where
 st:bb a b g e
 it:a3 a c f i ⟨#[]⟩
 rs:a3 a h ⟨#[]⟩ ⟨0,0,0,0,0,0⟩ ⟨#[]⟩
 be:Below d.heap.size d a
 YJ:b<a.heap.size
 YK:b<c
theorem jO.Yz {g e:D}{h a n l:Nat}{i:List (List L)}{k:K}(b:jO g h a n l i k ⟨0,0,0,0,0,0⟩ e)(p:h<a)(o:g.heap.size<=a)(c d:Int):jO g h a n l i k ⟨c,0,0,0,0,d⟩ ((((e.setCell ⟨a,1,none⟩ (j c)).setCell ⟨a,9,none⟩ (j d)).setCell ⟨a,2,none⟩ (j c)).setCell ⟨a,7,none⟩ (j d)):=by
 have f:Below a e ((((e.setCell ⟨a,1,none⟩ (j c)).setCell ⟨a,9,none⟩ (j d)).setCell ⟨a,2,none⟩ (j c)).setCell ⟨a,7,none⟩ (j d)):=by
  repeat(first|exact aq _ _|(refine bd ?_ F _))
 exact⟨b.st.below f b.YK,b.it.Yz c d,(((b.rs.YD m).YD m).YD m).YD m,b.be.trans (f.mono o),by have:=b.YJ;have:=f.size;omega,b.YK⟩
theorem jO.YZ {g e:D}{h b d l j:Nat}{k i:List (List L)}{n:K}(a:jO g h b d l k n ⟨0,0,0,0,0,0⟩ e)(q:h<b)(p:g.heap.size<=b)(c:K)(o:∀W,bb W d l k->bb W d j i):jO g h b d j i c ⟨0,0,0,0,0,0⟩ (e.setCell ⟨b,0,none⟩ (.string c)):=by
 have f:Below b e (e.setCell ⟨b,0,none⟩ (.string c)):=(aq _ _).setCell F _;exact⟨o _ (a.st.below f a.YK),a.it.YZ c,a.rs.YD m,a.be.trans (f.mono p),by have:=a.YJ;have:=f.size;omega,a.YK⟩
theorem aaA (p:Option Addr)(bR:Nat)(ak:List aC)(cp:ak.length<=5000)(t:K)(cz:t.size<=4096)(d:D)(b0:Hid (g1 d p ak))(b5:Hid (∀bQ,p=some bQ->bQ.block<d.heap.size)):
 Calls prog 165 #[.slice p ak.length bR,.string t] d fun A bF=>Oy (u.cl (u.tok t.size t.data.toList) ak) A/\Below d.heap.size d bF:=by
 obtain⟨c,bm⟩:=y (u.tok t.size t.data.toList);have ca:t.data.toList.length=t.size:=vr;have cq:=(oh t.size t.data.toList).1;have aO:=(oh t.size t.data.toList).2;have bz:=aaL t m;rw[ca,<-bm]at cq aO;rw[<-bm]at bz|-;have a2:Hid (ez c):=HX;have bO:=l bz;obtain⟨n,e⟩:=y (u.cl c ak);rw[<-e];have aR:=l e;clear e bz aO ca bm;have bU:Below d.heap.size d (d.alloc (bn ⟨#[]⟩ aF ⟨#[]⟩)):=lT;have a1:=l bU;have bj:=l (a3.new d ⟨#[]⟩ aF ⟨#[]⟩);unfold bn aF at a1 bj;clear bU;go_enter func165,ntmps165;go_wp2_with fail;refine(bO.out _).mono ?_;rintro A ap ⟨H,cf,rfl,cb,bx,b8,bq⟩;have bf:=l (a1.out.trans (bq.mono a1.out.size));have Z:=bj.out.more bq F;have ax:Hid (Below d.heap.size d (ap.alloc (bn ⟨#[]⟩ ⟨0,0,0,0,0,0⟩ ⟨#[]⟩))):=l (bf.out.alloc (by have:=bf.out.size;omega) _);have o:Hid (jO d d.heap.size ap.heap.size H 0 c ⟨#[]⟩ ⟨0,0,0,0,0,0⟩ (ap.alloc (bn ⟨#[]⟩ ⟨0,0,0,0,0,0⟩ ⟨#[]⟩))):=l ⟨(bb.more b8 bx ((aq _ _).alloc (aB _) _)).out,a3.new ap ⟨#[]⟩ ⟨0,0,0,0,0,0⟩ ⟨#[]⟩,Z.alloc _,ax.out,by simp;omega,bx⟩;have bA:d.heap.size<ap.heap.size:=Z.lt;obtain⟨a9,b2⟩:=y (ap.heap.size);unfold bn at o ax;clear bO a1 bj bq Z bf b8 bx;go_upto_region 3 with fail;obtain⟨ba,cc⟩:=y (ap.alloc (.cells #[.string ⟨#[]⟩,j 0,j 0,j 0,j 0,j 0,j 0,j 0,.string ⟨#[]⟩,j 0] 178));rw[<-cc]at o ax|-;rw[<-b2]at o bA|-;clear cc b2;go_cut [25]from 17 to 25 (fun aW ai=>∃a0:Bool,aW=.bool a0/\ai=ba/\Hid (a0=true↔1<c.length/\c[1]?.getD []=[58]));case first=>
  by_cases B:1<c.length
  . have cg:decide (2<=(c.length:Int))=true:=M;have c1:=o.out.st 1 B;obtain⟨au,Z⟩:=y (⟨(c[1]).toArray⟩:K);have cw:ba.cell? ⟨H,1,none⟩=some (.string au):=by rw[<-eg 1,c1,Z];rfl
    have a6:c[1]?.getD []=au.data.toList:=HS;have ce:(au.toList==[58])=decide (au.data.toList=[58]):=g9 au [58];clear c1 Z;by_cases aw:au.data.toList=[58]
    . rw[bc aw]at ce;have be:=l (cW B (a6.trans aw));clear aw a6;go_wp2_with fail;go_meet;case rel=>exact⟨true,rfl,rfl,l ⟨fun _=>be.out,fun _=>rfl⟩⟩
    . rw[aU aw]at ce;have be:Hid (¬(1<c.length/\c[1]?.getD []=[58])):=l (fun a=>aw (a6.symm.trans a.2));clear aw a6;exact Nk
  . have cg:decide (2<=(c.length:Int))=false:=M;have be:Hid (¬(1<c.length/\c[1]?.getD []=[58])):=l (fun a=>B a.1);exact Nk
 case rest=>
  obtain⟨a0,rfl,cd,aP⟩:=hcut;rw[cd];clear cd;go_upto_if 25 with fail;go_cut [6]from 25 to 45 (fun b ai=>∃(C av:Nat) (al:List (List L)) (f:K),b=.slice (some ⟨H,C,none⟩) al.length av/\al.length<=5000/\al.length<=av/\Hid (n=u.cy f.data.toList al)/\Hid (ez al)/\Hid (jO d d.heap.size a9 H C al f ⟨0,0,0,0,0,0⟩ ai));case first=>
   cases a0 with
   |true=>
    have B:1<c.length:=(aP.out.1 rfl).1;have aa:=o.out.st 0 m;obtain⟨z,ao⟩:=y (⟨(c[0]).toArray⟩:K);have cv:ba.cell? ⟨H,0,none⟩=some (.string z):=by rw[<-eg 0,aa,ao];rfl
    have b4:(c[0]'m).length<=5000:=a2.out _ (gd _);have bD:z.size<=5000:=by rw[ao];exact b4
    have bT:c[0]?.getD []=z.data.toList:=HT;clear aa ao b4;obtain⟨C,av,a8,aS,b9⟩:=k7 H 0 cf c 2 2 rfl m cb;have bM:Hid (ez (c.drop 2)):=l (fun b bw=>a2.out b (uM bw));have b3:(c.drop 2).length<=5000:=zz;have bZ:=aP.out.1 rfl;have q:=l (cW bZ bT);have bK:=l b9;obtain⟨bP,bo⟩:=y (c.drop 2);have ck:=l bo;rw[<-bo]at bK bM b3 a8 aS;clear bo b9 bZ bT aP;cases G:u.isName z.data.toList
    . have e:Hid (n=(5,eL)):=by
       show n=_;rw[aR.out];exact Dx q.out.1 (by rw[q.out.2,G];decide)
      obtain⟨I,J,N,O,P,Q,S,T,V,W,X,Y⟩:=o.out.it;obtain⟨ay,az,aA,aD,aE,aG,aH,aI,aJ,aK,aL,aM⟩:=o.out.rs;go_wp2_with fail;refine(qZ z bD _).mono ?_;rintro A w3 ⟨rfl,rfl⟩;rw[G];go_wp2_with fail;refine ab (v:=.tuple #[bC ⟨#[]⟩ ⟨0,0,0,0,0,0⟩ ⟨#[]⟩,j 5]) pf rfl ⟨⟨⟨#[]⟩,⟨0,0,0,0,0,0⟩,⟨#[]⟩,by rw[e.out]<;>rfl,l (fun a=>by rw[e.out]at a;exact absurd a R)⟩,?_⟩;exact Nl
    . have bs:=aav p bR ak cp z ba (l (b0.out.below ax.out b5.out));obtain⟨ch,hF⟩:=y (u.b9 ak z.data.toList);rw[<-hF]at bs;have bE:=l hF;have bG:=l bs;clear bs hF;by_cases aZ:ch<ak.length
      . have e:Hid (n=(9,eL)):=by
         show n=_;rw[aR.out];exact Dw q.out.1 u6 u7
        obtain⟨I,J,N,O,P,Q,S,T,V,W,X,Y⟩:=o.out.it;obtain⟨ay,az,aA,aD,aE,aG,aH,aI,aJ,aK,aL,aM⟩:=o.out.rs;go_wp2_with fail;refine(qZ z bD _).mono ?_;rintro A w3 ⟨rfl,rfl⟩;rw[G];go_wp2_with fail;refine bG.out.mono ?_;rintro A w3 ⟨rfl,rfl⟩;rw[bc aZ];go_wp2_with fail;refine ab (v:=.tuple #[bC ⟨#[]⟩ ⟨0,0,0,0,0,0⟩ ⟨#[]⟩,j 9]) pf rfl ⟨⟨⟨#[]⟩,⟨0,0,0,0,0,0⟩,⟨#[]⟩,by rw[e.out]<;>rfl,l (fun a=>by rw[e.out]at a;exact absurd a R)⟩,?_⟩;exact Nl
      . have HR:Hid (n=u.cy z.data.toList bP):=by
         show n=_;rw[aR.out,ck.out,<-q.out.2];exact Dy q.out.1 u6 u7
        obtain⟨I,J,N,O,P,Q,S,T,V,W,X,Y⟩:=o.out.it;go_wp2_with fail;refine(qZ z bD _).mono ?_;rintro A w3 ⟨rfl,rfl⟩;rw[G];go_wp2_with fail;refine bG.out.mono ?_;rintro A w3 ⟨rfl,rfl⟩;rw[aU aZ];go_wp2_with fail;go_meet;case rel=>exact⟨C,av,bP,z,rfl,b3,aS,HR,bM,l (o.out.YZ bA m z bK.out)⟩
   |false=>
    have HR:Hid (n=u.cy [] c):=by
     show n=_;rw[aR.out];exact xB (fun a=>by have:=aP.out.2 a;cases this)
    clear aP;go_wp2_with fail;go_meet;case rel=>exact⟨0,cf,c,⟨#[]⟩,rfl,by omega,cb,HR,a2,o⟩
  case rest=>
   obtain⟨C,av,al,f,rfl,cs,aS,HR,cn,ad⟩:=hcut;have ar:=l ad.out.be;clear aR a2 o ax b0 b5;cases al with
   |nil=>
    have e:Hid (n=(0,⟨f.data.toList,aF,[]⟩)):=HR;obtain⟨I,J,N,O,P,Q,S,T,V,W,X,Y⟩:=ad.out.it;obtain⟨ay,az,aA,aD,aE,aG,aH,aI,aJ,aK,aL,aM⟩:=ad.out.rs;clear HR;go_wp2_with fail;refine ab (v:=.tuple #[bC f ⟨0,0,0,0,0,0⟩ ⟨#[]⟩,j 0]) pf rfl ⟨⟨f,⟨0,0,0,0,0,0⟩,⟨#[]⟩,by rw[e.out]<;>rfl,l (fun _=>by rw[e.out];exact⟨(he f).symm,rfl,rfl⟩)⟩,?_⟩;repeat(first|with_reducible exact aq _ _|with_reducible exact ar.out|(with_reducible refine bd ?_ rP _)|(with_reducible refine bk ?_ rQ _)|(with_reducible refine fF ?_))
   |cons b LT=>
    have aa:=ad.out.st 0 F;obtain⟨bl,aN⟩:=y (⟨b.toArray⟩:K);have d0:wc.cell? ⟨H,C,none⟩=some (.string bl):=HU;have bX:bl.data.toList=b:=by rw[aN]
    have aV:=aaz bl;rw[bX]at aV;obtain⟨cu,co,b7,bY,bv⟩:=k7 H C av (b::LT) 1 1 rfl F aS;simp only[o8,jw]at b7 bY bv;obtain⟨a5,w⟩:=y (u.bj b);have a7:a5.1<=72:=zA;have bp:a5.1=0↔a5.2=0:=by rw[w];exact aeY b
    rw[<-w]at aV;obtain⟨h,an⟩:=a5;simp only at a7 bp aV;have bh:=l aV;have ag:=l w;have bi:=l bp;have bL:=l bv;simp only[c6]at cs aS b7|-;have cy:((LT.length:Int)+1==0)=false:=M;clear aa aN bX aV w bp bv;by_cases bB:h=0
    . have e:Hid (n=(5,eL)):=by
       show n=_;rw[HR.out];exact ts _ _ _ (by rw[<-ag.out];exact bi.out.1 bB)
      subst bB;clear HR;obtain⟨I,J,N,O,P,Q,S,T,V,W,X,Y⟩:=ad.out.it;obtain⟨ay,az,aA,aD,aE,aG,aH,aI,aJ,aK,aL,aM⟩:=ad.out.rs;go_wp2_with fail;refine(bh.out _).mono ?_;rintro A w3 ⟨rfl,rfl⟩;go_wp2_with fail;refine ab (v:=.tuple #[bC f ⟨0,0,0,0,0,0⟩ ⟨#[]⟩,j 5]) pf rfl ⟨⟨f,⟨0,0,0,0,0,0⟩,⟨#[]⟩,by rw[e.out]<;>rfl,l (fun a=>by rw[e.out]at a;exact absurd a R)⟩,?_⟩;repeat(first|with_reducible exact aq _ _|with_reducible exact ar.out|(with_reducible refine bd ?_ rP _)|(with_reducible refine bk ?_ rQ _)|(with_reducible refine fF ?_))
    . have cx:((h:Int)==0)=false:=M;have bW:∀af,af=u.bH (u.eN h) false ⟨h,0,0,0,0,an⟩ [] LT->(af=none->n=(6,eL))/\(∀i g,af=some (i,g)->n=(0,⟨f.data.toList,i,g⟩)):=by
       intro af k;have aj:(u.bj b).1=h:=m8;have v:(u.bj b).2=an:=m8;have bS:¬an=0:=fun a=>bB (bi.out.2 a);refine⟨fun a=>?_,fun i g a=>?_⟩
       . rw[HR.out];exact tr _ _ _ (by rw[v];exact bS) vb
       . rw[HR.out];exact tt _ _ _ (by rw[v];exact bS) vb
      obtain⟨x,hS⟩:=y (Nm.shape h);have b6:=(k5 h a7).1;have a8:=(k5 h a7).2;have bt:=UW h a7;rw[<-hS]at b6 bt;have cl:Hid (∀am (a:am<x.size),x[am].toNat=100\/x[am].toNat=115\/x[am].toNat=116\/x[am].toNat=109\/x[am].toNat=106\/x[am].toNat=117\/x[am].toNat=105):=by rw[hS];exact l a8
      have cj:=l bt;obtain⟨af,k⟩:=y (u.bH (x.data.toList.map UInt8.toNat) false ⟨h,0,0,0,0,an⟩ [] LT);have a4:=l (bW af (by rw[k,hS];rfl));have bI:=l k;have bu:=EM (h:Int);have bV:Nm.shape (h:Int)=x:=hS.symm;rw[bV]at bu;have bN:=l bu;clear bW a8 bt k hS bV bu HR ag bi;have bJ:=l (ad.out.Yz bA m h an);obtain⟨I,J,N,O,P,Q,S,T,V,W,X,Y⟩:=ad.out.it;go_wp2_with fail;refine(bh.out _).mono ?_;rintro A w3 ⟨rfl,rfl⟩;go_upto_region 21 with fail;go_cut [12]from 70 to 71 (fun aW ai=>aW=.string x/\Hid (jO d d.heap.size a9 H C (b::LT) f ⟨h,0,0,0,0,an⟩ ai));case first=>
       go_wp2_with(go_at_call 162;refine(bN.out _).mono ?_;rintro A bF ⟨rfl,rfl⟩);go_meet;case rel=>exact⟨rfl,bJ⟩
      case rest=>
       obtain⟨rfl,E⟩:=hcut;clear I J N O P Q S T V W X Y d0 bJ ad ar bh bN;have ah:Below wc.heap.size wc wc.drew:=(aq _ _).drew;have br:=aay f ⟨h,0,0,0,0,an⟩ [] x b6 cl cj (l rfl) H cu co LT m bY wc.drew (bb.more (l (bL.out _ E.out.st)) E.out.YJ ah) (aQ E.out.YJ ah.size) (l (fun b bw=>cn.out b (rH _ bw)));rw[<-bI.out]at br;have bg:=l (br.mono fun A w3 a=>(⟨a.1,l (E.out.be.trans ((ah.trans (a.2.mono ah.size)).mono E.out.be.size)),l (E.out.it.more (ah.trans (a.2.mono ah.size)) E.out.it.lt),l (E.out.rs.more (ah.trans (a.2.mono ah.size)) E.out.rs.lt)⟩:_/\Hid (Below d.heap.size d w3)/\Hid (a3 w3 a9 f ⟨h,0,0,0,0,an⟩ ⟨#[]⟩)/\Hid (a3 w3 d.heap.size ⟨#[]⟩ ⟨0,0,0,0,0,0⟩ ⟨#[]⟩)));unfold bC at bg;clear br ah bL bI;obtain⟨I,J,N,O,P,Q,S,T,V,W,X,Y⟩:=E.out.it;go_upto_region 22 with fail;go_cut [13]from 72 to 79 (fun aW ai=>∃(ae:U) (ac:K),aW=.bool af.isSome/\Hid (a3 ai a9 f ae ac)/\Hid (a3 ai d.heap.size ⟨#[]⟩ ⟨0,0,0,0,0,0⟩ ⟨#[]⟩)/\Hid (Below d.heap.size d ai)/\Hid (∀aX aY,af=some (aX,aY)->ae=aX/\ac=⟨aY.toArray⟩));case first=>
        go_region_with(go_at_call 235;refine bg.out.mono ?_;rintro A w3 ⟨⟨ae,ac,rfl,aT⟩,cr,s,ct⟩;unfold bC;have ay:=s.out.V8;have az:=s.out.c1;have aA:=s.out.c2;have aD:=s.out.c3;have aE:=s.out.c4;have aG:=s.out.c5;have aH:=s.out.W4;have aI:=s.out.W5;have aJ:=s.out.Xj;have aK:=s.out.Xi;have aL:=s.out.Wb;have aM:=s.out.lt);all_goals (go_wp2_with fail;go_meet)
        all_goals exact⟨ae,ac,rfl,l (a3.put s.out),l (ct.out.XN m),l (sN cr.out m _ _ _),aT⟩
       case rest=>
        obtain⟨ae,ac,rfl,ci,cm,ar,aT⟩:=hcut;clear I J N O P Q S T V W X Y bg E;obtain⟨I,J,N,O,P,Q,S,T,V,W,X,Y⟩:=ci.out;obtain⟨ay,az,aA,aD,aE,aG,aH,aI,aJ,aK,aL,aM⟩:=cm.out;cases af with
        |none=>
         have e:=l (a4.out.1 rfl);clear a4 aT;go_wp2_with fail;refine ab (v:=.tuple #[bC f ae ac,j 6]) pf rfl ⟨⟨f,ae,ac,by rw[e.out]<;>rfl,l (fun a=>by rw[e.out]at a;exact absurd a R)⟩,?_⟩;repeat(first|with_reducible exact aq _ _|with_reducible exact ar.out|(with_reducible refine bd ?_ rP _)|(with_reducible refine bk ?_ rQ _)|(with_reducible refine fF ?_))
        |some r=>
         obtain⟨aX,aY⟩:=r;have e:=l (a4.out.2 aX aY rfl);have b1:=aT.out aX aY rfl;have bH:=l b1;clear a4 aT b1;go_wp2_with fail;refine ab (v:=.tuple #[bC f ae ac,j 0]) pf rfl ⟨⟨f,ae,ac,by rw[e.out]<;>rfl,l (fun _=>by rw[e.out];exact⟨(he f).symm,bH.out.1,bH.out.2⟩)⟩,?_⟩;repeat(first|with_reducible exact aq _ _|with_reducible exact ar.out|(with_reducible refine bd ?_ rP _)|(with_reducible refine bk ?_ rQ _)|(with_reducible refine fF ?_))
end Go.Proofs.YtmlgonbhoknoiabGreatDoor
