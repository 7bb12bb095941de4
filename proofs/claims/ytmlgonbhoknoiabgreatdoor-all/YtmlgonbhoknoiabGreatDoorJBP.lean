import Derived.Test.YtmlgonbhoknoiabGreatDoorJBK
import Derived.Test.YtmlgonbhoknoiabGreatDoorJBO
set_option maxHeartbeats 8000000
set_option maxRecDepth 100000
set_option linter.all false
namespace Go.Proofs.YtmlgonbhoknoiabGreatDoor
open Go.RowKit Go.Proofs.Tryz
section
attribute [local go_sem ↓] Go.wp_at_zero Go.wp_at_succ
def lX (c:D)(p:aN)(b:Ending)(a:D):Prop:=b=.returned (.bool true)/\bE a p/\Kept [] c a
def Sk (p:aN)(e h k:Int)(q:K)(m:dq ⟨11,e,h,k,q⟩)(b:D)(i:Hid (bE b p)):
 Calls prog 125 #[I p.Wk,I p.Wn,.agg #[j 11,j e,j h,j k,.string q]] b fun o u=>lX b p o u:=by
 have f:Kept [] b (b.alloc (.cells #[j 11,j e,j h,j k,.string q] 56)):=dC;have g:=i.out.W3 f;have d:=g.both;have s:=bf.new b [j 11,j e,j h,j k,.string q] 56;have c:=l (fun W (r:E W p.Wk p.WQ p.X)=>afv p.Wk p.WQ p.X d.1.ok W (l r));have a:=l (fun W (r:V W p.Wn p.WY p.WZ p.W0 p.W1 p.W2)=>adY p.Wn p.WY p.WZ p.W0 p.W1 p.W2 d.ok W (l r));have o:=P2 d;simp only[o]at a;clear o;generalize qL p.X=y at c a;exact AV
def Sl (p:aN)(e b c:Int)(f:K)(q:dq ⟨12,e,b,c,f⟩)(d:D)(z:Hid (bE d p)):
 Calls prog 125 #[I p.Wk,I p.Wn,.agg #[j 12,j e,j b,j c,.string f]] d fun m H=>lX d p m H:=by
 have r:Kept [] d (d.alloc (.cells #[j 12,j e,j b,j c,.string f] 56)):=dC;have i:=z.out.W3 r;have o:=i.both;have C:=bf.new d [j 12,j e,j b,j c,.string f] 56;have x:=q.V8;have k:=q.c1;obtain⟨M,m,g,y⟩:=aa0 p.Wk p.WQ p.X o.1 b c k _ i.x;have g:=l g;have a:=l (fun W (J:V W p.Wn p.WY p.WZ p.W0 p.W1 p.W2)=>aaV p.Wn p.WY p.WZ p.W0 p.W1 p.W2 p.X o b c x k M m y W J);clear y x k;have v:=l i;have u:=l r;clear i r q z o;go_enter func125,ntmps125;go_wp2_with fail;refine g.out.mono ?_;rintro L E ⟨rfl,A⟩;have h:Kept [] (d.alloc (.cells #[j 12,j e,j b,j c,.string f] 56)) E:=by rw[A];exact Kept.refl _ _
 clear A;have n:=l (v.out.W3 h);have s:=C.kept h;have F:=s.cell 2 _ rfl;have G:=s.cell 3 _ rfl;have w:=l (u.out.trans h);clear h C s g v u;go_wp2_with fail;refine(a.out _ n.out.r).mono ?_;rintro L N ⟨rfl,B⟩;have t:Kept [] E N:=by rw[B];exact Kept.refl _ _
 clear B;exact Mk
def Sm (p:aN)(e b o:Int)(r:K)(m:dq ⟨13,e,b,o,r⟩)(h:D)(i:Hid (bE h p)):
 Calls prog 125 #[I p.Wk,I p.Wn,.agg #[j 13,j e,j b,j o,.string r]] h fun q k=>lX h p q k:=by
 have f:Kept [] h (h.alloc (.cells #[j 13,j e,j b,j o,.string r] 56)):=dC;have g:=i.out.W3 f;have d:=g.both;have s:=bf.new h [j 13,j e,j b,j o,.string r] 56;have c:=l (fun W (u:E W p.Wk p.WQ p.X)=>(EU p.Wk p.WQ p.X b W u).mono (fun y k ⟨e,b⟩=>(⟨e,by rw[b];exact Kept.refl _ _⟩:_/\Kept [] W k)));have a:=l (fun W (u:V W p.Wn p.WY p.WZ p.W0 p.W1 p.W2)=>(aaW p.Wn p.WY p.WZ p.W0 p.W1 p.W2 b W u).mono (fun y k ⟨e,b⟩=>(⟨e,by rw[b];exact Kept.refl _ _⟩:_/\Kept [] W k)));have q:=(BV d).2.2.2;simp only[q]at a;clear q;generalize (jm p.X.x b).1=A at c a;generalize (jm p.X.x b).2=B at c a;exact AV
def Sn (p:aN)(h b k:Int)(o:K)(m:dq ⟨14,h,b,k,o⟩)(e:D)(i:Hid (bE e p)):
 Calls prog 125 #[I p.Wk,I p.Wn,.agg #[j 14,j h,j b,j k,.string o]] e fun u r=>lX e p u r:=by
 have f:Kept [] e (e.alloc (.cells #[j 14,j h,j b,j k,.string o] 56)):=dC;have g:=i.out.W3 f;have d:=g.both;have s:=bf.new e [j 14,j h,j b,j k,.string o] 56;have c:=l (fun W (q:E W p.Wk p.WQ p.X)=>afe p.Wk p.WQ p.X d.1.ok b W (l q));have a:=l (fun W (q:V W p.Wn p.WY p.WZ p.W0 p.W1 p.W2)=>aaS p.Wn p.WY p.WZ p.W0 p.W1 p.W2 p.X d b m.YY m.YI W q);generalize ((j9 p.X b).1:Int)=y at c a;generalize (j9 p.X b).2=A at c a;exact AV
def So (p:aN)(i k m:Int)(q:K)(G:dq ⟨15,i,k,m,q⟩)(d:D)(A:Hid (bE d p)):
 Calls prog 125 #[I p.Wk,I p.Wn,.agg #[j 15,j i,j k,j m,.string q]] d fun C B=>lX d p C B:=by
 have n:Kept [] d (d.alloc (.cells #[j 15,j i,j k,j m,.string q] 56)):=dC;have o:=A.out.W3 n;have z:=o.both;obtain⟨v,w,x,F⟩:=BV z;have y:p.W2.b.o.length=p.X.b.o.length:=by rw[x]
 have s:=l (fun W (a:E W p.Wk p.WQ p.X)=>afo p.Wk p.WQ p.X W (l a));have f:=l (fun W (a:V W p.Wn p.WY p.WZ p.W0 p.W1 p.W2)=>adS p.Wn p.WY p.WZ p.W0 p.W1 p.W2 W (l a));have t:=l (fun W (a:E W p.Wk p.WQ p.X)=>afm p.Wk p.WQ p.X W (l a));have g:=l (fun W (a:V W p.Wn p.WY p.WZ p.W0 p.W1 p.W2)=>adP p.Wn p.WY p.WZ p.W0 p.W1 p.W2 W (l a));have u:=l (fun W (a:E W p.Wk p.WQ p.X)=>afw p.Wk p.WQ p.X W (l a));have h:=l (fun W (a:V W p.Wn p.WY p.WZ p.W0 p.W1 p.W2)=>adZ p.Wn p.WY p.WZ p.W0 p.W1 p.W2 W (l a));simp only[v]at f;simp only[w]at g;simp only[y]at h;clear v w x F y;generalize (p.X.V3:Int)=H at s f;generalize (p.X.mode:Int)=J at t g;generalize (p.X.b.o.length:Int)=L at u h;have b:=l o;have r:=l n;clear o n G A z;go_enter func125,ntmps125;go_wp2_with fail;refine(s.out _ b.out.x).mono ?_;rintro c e ⟨rfl,rfl⟩;go_wp2_with fail;refine(f.out _ b.out.r).mono ?_;rintro c e ⟨rfl,rfl⟩;go_wp2_with fail;refine(t.out _ b.out.x).mono ?_;rintro c e ⟨rfl,rfl⟩;go_wp2_with fail;refine(g.out _ b.out.r).mono ?_;rintro c e ⟨rfl,rfl⟩;go_wp2_with fail;refine(u.out _ b.out.x).mono ?_;rintro c e ⟨rfl,rfl⟩;go_wp2_with fail;refine(h.out _ b.out.r).mono ?_;rintro c e ⟨rfl,rfl⟩;exact Ml
def Sp (p:aN)(d:bS)(e:¬(11<=d.k/\d.k<=15))(c:D)(f:Hid (bE c p)):
 Calls prog 125 #[I p.Wk,I p.Wn,d.v] c fun m g=>lX c p m g:=by
 obtain⟨a,h,i,k,n⟩:=d;unfold bS.v;simp only at e|-;have r:=l ((Kept.refl [] c).alloc (.cells #[j a,j h,j i,j k,.string n] 56));have b:=l (f.out.W3 r.out);have o:(a==11)=false:=M;have q:(a==12)=false:=M;have s:(a==13)=false:=M;have t:(a==14)=false:=M;have u:(a==15)=false:=M;clear f e;go_enter func125,ntmps125;exact Ml
def Sq (p:aN)(c:bS)(g:dq c)(a:D)(b:Hid (bE a p)):
 Calls prog 125 #[I p.Wk,I p.Wn,c.v] a fun l k=>lX a p l k:=by
 by_cases j:¬(11<=c.k/\c.k<=15)
 . exact Sp p c j a b
 . obtain⟨h,d,e,f,i⟩:=c;simp only at j;have m:h=11\/h=12\/h=13\/h=14\/h=15:=J;rcases m with rfl|rfl|rfl|rfl|rfl
   . exact Sk p d e f i g a b
   . exact Sl p d e f i g a b
   . exact Sm p d e f i g a b
   . exact Sn p d e f i g a b
   . exact So p d e f i g a b
theorem b7.W3 {c a:D}{d:Nat}{i:U}{b:Nat}(f:b7 c d i b)(j:Kept [] c a):b7 a d i b:=by
 obtain⟨e,k,l,g,h⟩:=f;exact⟨e,k,l,g.W3 j,h⟩
def b7.mono {c:D}{d:Nat}{i:U}{b a:Nat}(f:b7 c d i b)(l:b<=a):b7 c d i a:=by
 obtain⟨e,h,j,g,k⟩:=f;exact⟨e,h,j,g,by omega⟩
theorem b7.lt {a:D}{b:Nat}{i:U}{e:Nat}(c:b7 a b i e):b<a.heap.size:=by
 obtain⟨f,h,j,d,g⟩:=c;exact d.lt
def Sc (b:Nat)(i:U)(c:Nat)(s:c<1073741824)(h d k:Int)(n:K)(a:D)(e:Hid (b7 a b i c)):
 Calls prog 76 #[I b,.agg #[j 1,j h,j d,j k,.string n]] a fun m g=>m=.returned (.bool true)/\b7 g b i (c+1)/\Below b a g:=by
 have f:Kept [] a (a.alloc (.cells #[j 1,j h,j d,j k,.string n] 56)):=dC;have o:=l (gx f F (gm e.out.lt));have p:=l (Sg b i c s d _ (l (e.out.W3 f)));clear f e;go_enter func76,ntmps76;go_wp2_with fail;refine p.out.mono ?_;rintro m t ⟨rfl,q,r⟩;go_wp2_with fail;go_ret;exact⟨rfl,q,o.out.trans r⟩
def Sb (b:Nat)(i:U)(c:bS)(h:¬c.k=1)(p:Option Addr)(d:Nat)(a:D)(k:a.cell? ⟨b,0,none⟩=some (.slice p 0 d))(l:b<a.heap.size):
 aE 76 #[I b,c.v] (.bool true) a:=by
 obtain⟨e,f,g,j,n⟩:=c;unfold bS.v;simp only at h|-;have m:(e==1)=false:=nm;clear h;go_enter func76,ntmps76;exact JW
def Sd (q:Nat)(i:U)(r:bS)(x:dq r)(h:¬r.k=1)(S:¬r.k=9)(b:List aN)(g N O af:Nat)(aq:0<b.length)(aC:b.length<=1073741824)(c:D)(k:Hid (cC c q i b (b.map aN.Wk) (b.map aN.Wn) (.slice (some ⟨g,0,none⟩) b.length N) (.slice (some ⟨O,0,none⟩) b.length af))):
 Calls prog 76 #[I q,r.v] c fun A v=>A=.returned (.bool true)/\b7 v q i b.length/\Below q c v:=by
 have z:=fun p W (B:bE W p)=>l (R8 p r x W (l B));have LT:=fun p W (B:bE W p)=>l (Sq p r x W (l B));have Q:=x.a0;have R:=x.YH;obtain⟨o,w,L,M,aa⟩:=r;unfold bS.v at z LT|-;simp only at h S Q R z LT|-;have aG:(o==1)=false:=nm;have aH:(o==9)=false:=by simp[S]
 have aI:((b.length:Int)==0)=false:=b4.2 m;have V:Kept [] c (c.alloc (.cells #[j o,j w,j L,j M,.string aa] 56)):=dC;have e:=l (k.out.W3 V.drew);have aw:=k.out.V8;have d0:=e.out.V8;have d1:=e.out.c1;have f:=(bf.new c [j o,j w,j L,j M,.string aa] 56).drew;have al:=f.cell 0 _ rfl;have X:=f.cell 1 _ rfl;have aE:=k.out.lt;have ae:=fun W=>l (CJ w Q R b.length aq m W);have ac:=l V.drew;clear V h S x Q R;go_enter func76,ntmps76;go_upto_region 5 with fail;go_region_held3 (fun v=>v.cell? ⟨c.heap.size,1,none⟩=some (j w)/\v.cell? ⟨q,0,none⟩=some (.slice (some ⟨g,0,none⟩) b.length N)) (first|exact⟨X,d0⟩|go_keep) (first|(go_at_call 122;refine(ae _).out.mono ?_;rintro A C ⟨⟨a,d,rfl⟩,rfl⟩));all_goals
  obtain⟨K,P⟩:=y ((c.alloc (.cells #[j o,j w,j L,j M,.string aa] 56)).drew);rw[<-P]at e ac d0 d1 al X f|-;have Z:=e.out.Xo;have Y:=e.out.Xp;rw[gS]at Z Y;have ag:K.cell? ⟨g,a,none⟩=some (.pointer (some ⟨b[a].Wk,0,none⟩)):=by
   rw[Z.cellAt a (by omega)];simp[iC,d]
  have ah:K.cell? ⟨O,a,none⟩=some (.pointer (some ⟨b[a].Wn,0,none⟩)):=by
   rw[Y.cellAt a (by omega)];simp[iC,d]
  have am:=e.out.Xs a d;have G:=z b[a] K am;have aj:¬c.heap.size∈b[a].WV:=HL;obtain⟨p,T⟩:=y (b[a]);rw[<-T]at ag ah G aj;have ab:=l T;have ar:=f.cell 2 _ rfl;have au:=f.cell 3 _ rfl;have av:=f.cell 4 _ rfl;have aD:(a:Int)< (b.length:Int):=J;have B:=l P;clear T Z Y am z ae P;go_wp2_with fail;refine G.out.mono ?_;rintro A C ⟨rfl,u,E,n,t⟩;have H:=LT u C E;rw[n.Wk,n.Wn]at H;have s:=f.more t aj;have ax:=s.cell 0 _ rfl;have ay:=s.cell 1 _ rfl;have az:=s.cell 2 _ rfl;have aA:=s.cell 3 _ rfl;have aB:=s.cell 4 _ rfl;have ad:Hid (b7 C q i b.length):=by
   rw[ab.out]at n t;refine⟨b.set a u,.slice (some ⟨g,0,none⟩) b.length N,.slice (some ⟨O,0,none⟩) b.length af,?_,by simp⟩;have ao:(b.set a u).map aN.Wk=b.map aN.Wk:=by
    rw[List.map_set,n.Wk];exact xR _ _ (by simpa using d) _ F
   have ap:(b.set a u).map aN.Wn=b.map aN.Wn:=by
    rw[List.map_set,n.Wn];exact xR _ _ (by simpa using d) _ F
   rw[ao,ap];exact e.out.act a d u E n t
  have an:Hid (Below q c C):=by
   have ai:=e.out.ge a d;rw[<-ab.out]at ai;exact l ((gx ac.out F m).trans (gx t (fun o h=>gm (ai o h)) (gm e.out.lt)))
  clear G LT E n t f s al X ar au av ag ah d0 d1;go_wp2_with fail;refine H.out.mono ?_;rintro A aJ ⟨rfl,aF,ak⟩;clear H;go_wp2_with fail;go_ret;exact⟨rfl,ad.out.W3 ak,an.out.trans (gx ak F (gm ad.out.lt))⟩
def Se (o:Nat)(i:U)(G:bS)(ab:dq G)(aG:G.k=9)(b:List aN)(g ay aD aT:Nat)(aW:0<b.length)(a8:b.length<1073741824)(f:D)(k:Hid (cC f o i b (b.map aN.Wk) (b.map aN.Wn) (.slice (some ⟨g,0,none⟩) b.length ay) (.slice (some ⟨aD,0,none⟩) b.length aT))):
 Calls prog 76 #[I o,G.v] f fun e s=>e=.returned (.bool true)/\b7 s o i (b.length+1)/\Below o f s:=by
 have ar:=fun(p:aN) W (u:bE W p)=>l (afd p.Wk p.WQ p.X u.both.1.ok.b.o W (l u.x));have LT:=fun(p:aN) W (aY:bv p.W2 p.X) (u:V W p.Wn p.WY p.WZ p.W0 p.W1 p.W2)=>l (adH p.Wn p.WY p.WZ p.W0 p.W1 p.W2 aY.ok.b.o W (l u));have X:=ab.a0;have Y:=ab.YH;obtain⟨r,q,P,Q,ah⟩:=G;unfold bS.v;simp only at aG X Y|-;subst aG;have bc:((b.length:Int)==0)=false:=b4.2 m;have ac:Kept [] f (f.alloc (.cells #[j 9,j q,j P,j Q,.string ah] 56)):=dC;have c:=l (k.out.W3 ac.drew);have ax:=k.out.V8;have d0:=c.out.V8;have d1:=c.out.c1;have E:=(bf.new f [j 9,j q,j P,j Q,.string ah] 56).drew;have aI:=E.cell 0 _ rfl;have ae:=E.cell 1 _ rfl;have ba:=k.out.lt;have au:=fun W=>l (CJ q X Y b.length aW m W);have an:=l ac.drew;clear ac ab X Y;go_enter func76,ntmps76;go_upto_region 5 with fail;go_region_held3 (fun s=>s.cell? ⟨f.heap.size,1,none⟩=some (j q)/\s.cell? ⟨o,0,none⟩=some (.slice (some ⟨g,0,none⟩) b.length ay)) (first|exact⟨ae,d0⟩|go_keep) (first|(go_at_call 122;refine(au _).out.mono ?_;rintro e aM ⟨⟨a,d,rfl⟩,rfl⟩));all_goals
  obtain⟨h,T⟩:=y ((f.alloc (.cells #[j 9,j q,j P,j Q,.string ah] 56)).drew);rw[<-T]at c an d0 d1 aI ae E|-;have ag:=c.out.Xo;have af:=c.out.Xp;rw[gS]at ag af;have aA:h.cell? ⟨g,a,none⟩=some (.pointer (some ⟨b[a].Wk,0,none⟩)):=by
   rw[ag.cellAt a (by omega)];simp[iC,d]
  have aB:h.cell? ⟨aD,a,none⟩=some (.pointer (some ⟨b[a].Wn,0,none⟩)):=by
   rw[af.cellAt a (by omega)];simp[iC,d]
  have aJ:=c.out.Xs a d;have M:=ar b[a] h aJ;have aZ:¬f.heap.size∈b[a].WV:=HL;obtain⟨p,Z⟩:=y (b[a]);rw[<-Z]at aA aB M aZ;have aS:=l Z;have a9:(a:Int)< (b.length:Int):=J;have u:=l T;clear Z ag af aJ ar au T;go_wp2_with fail;refine M.out.mono ?_;rintro e aM ⟨rfl,aH,A⟩;have v:=(c.out.Xs a d).W3 A;rw[<-aS.out]at v;have av:=LT p aM v.both v.r;have N:=l aH;have ao:=l A;have ap:=l (c.out.W3 A);have aF:=l v.both;clear M LT aH A v E aI ae aA aB d0 d1;go_wp2_with fail;refine av.out.mono ?_;rintro e aO ⟨⟨ad,aw,aC,aP,aL,rfl,a3,a4,a5,a6,a7,aa⟩,B⟩;have bd:=N.out.Ww;have C:=aa.nodup;have aq:=ap.out.W3 B;have aK:bE aO ⟨h.heap.size,h.heap.size+1,ad,aw,aC,aP,aL,p.X,p.W2⟩:=by
   refine⟨N.out.kept B,aa,aF.out,?_⟩;simp only[aN.WV,gR]at C|-;simp only[dB,eR,eS,gh]at C|-;exact⟨⟨by omega,by omega,by omega,by omega,by omega,by omega⟩,⟨by omega,by omega,by omega,by omega,by omega⟩,C⟩
  have t:=aq.Zp _ aK h.heap.size (by
   intro r n;simp only[aN.WV,dB,eR,eS]at n;rcases n with e|e|e|e|e|e|e<;>omega) c.out.lt (fun r n=>(c.out.Xo.lt r n).2) (fun r n=>(c.out.Xp.lt r n).2) (fun q aX r n=>(c.out.Xs q aX).lt r n)
  have ak:Hid (Below o f aO):=l (gx ((an.out.trans ao.out).trans B) F m);clear aq aK C aa B av N ao ap aF;obtain⟨O,x⟩:=y (b.map aN.Wk);obtain⟨w,z⟩:=y (b.map aN.Wn);rw[<-x,<-z]at t;have a0:O.length<=1073741824:=by rw[x,gS];omega
  have a1:w.length<=1073741824:=by rw[z,gS];omega
  have ax:=t.V8;have bb:=t.lt;have am:=l t;have ai:=l (cW x z);clear x z t c k;go_wp2_with(at_builtin;refine Fr rfl (.tmp 59) (.tmp 61) rfl am.out h.heap.size a0 rfl _ rfl rfl ?_);intro aE az w3 L4 d0 aU aV al;have c1:=L4.c1;have L:=l L4;have H:=l (ak.out.trans (sO al 0 (.slice (some ⟨aE,0,none⟩) (O.length+1) az)));clear L4 am ak al ax;go_wp2_with(at_builtin;refine Fq rfl (.tmp 69) (.tmp 71) rfl L.out ad a1 rfl w3.heap.size F rfl ?_);intro S R a2 aj d0 aU aV K;have aQ:=l (sO (H.out.trans K) 1 (.slice (some ⟨S,0,none⟩) (w.length+1) R));have aR:Hid (b7 (a2.setCell ⟨o,1,none⟩ (.slice (some ⟨S,0,none⟩) (w.length+1) R)) o i (b.length+1)):=by
   refine⟨b++[⟨h.heap.size,h.heap.size+1,ad,aw,aC,aP,aL,p.X,p.W2⟩],.slice (some ⟨aE,0,none⟩) (O.length+1) az,.slice (some ⟨S,0,none⟩) (w.length+1) R,?_,?_⟩
   . exact Mq
   . simp
  exact Mp
def CI (b:Nat)(i:U)(q:Nat)(B:q<1073741824)(c:bS)(x:dq c)(h:D)(s:Hid (b7 h b i q)):
 Calls prog 76 #[I b,c.v] h fun n j=>n=.returned (.bool true)/\b7 j b i (q+1)/\Below b h j:=by
 by_cases o:c.k=1
 . obtain⟨J,d,a,k,C⟩:=c;simp only at o;subst o;exact Sc b i q B d a k C h s
 . obtain⟨r,E,K,f,H⟩:=s.out;have t:=f.Xo;have z:=f.Xp;rw[gS]at t z;by_cases A:r.length=0
   . have hu:∃p e,E=.slice p 0 e:=by
      rcases t.2 with⟨n,_⟩|⟨g,e,G,n,_⟩
      . exact⟨_,_,n⟩
      . exact⟨_,_,by rw[n,A]⟩
     obtain⟨p,e,rfl⟩:=hu;exact(Sb b i c o p e h f.V8 f.lt).mono (fun y j ⟨d,a⟩=>⟨d,(s.out.W3 a).mono m,gx a F (gm f.lt)⟩)
   . obtain⟨g,e,rfl,_,_⟩:=t.form m;obtain⟨v,u,rfl,_,_⟩:=z.form m;by_cases w:c.k=9
     . exact(Se b i c x w r g e v u m m h (l f)).mono (fun y j ⟨d,a,k⟩=>⟨d,a.mono m,k⟩)
     . exact(Sd b i c x o w r g e v u m m h (l f)).mono (fun y j ⟨d,a,k⟩=>⟨d,a.mono m,k⟩)
def b7.below {a b:D}{d:Nat}{i:U}{c:Nat}(e:b7 a d i c)(f:Below a.heap.size a b):b7 b d i c:=e.W3 (Below.k f)
def b7.c {a:D}{b:Nat}{i:U}{n:Nat}(e:b7 a b i n):a.cell? ⟨b,2,none⟩=some (j i.op)/\a.cell? ⟨b,3,none⟩=some (j i.rd)/\a.cell? ⟨b,4,none⟩=some (j i.V1)/\a.cell? ⟨b,5,none⟩=some (j i.V6)/\a.cell? ⟨b,6,none⟩=some (j i.V2)/\a.cell? ⟨b,7,none⟩=some (j i.V4)/\(∀f,a.frozen? ⟨b,f,none⟩=false):=by
 obtain⟨g,k,l,d,h⟩:=e;exact⟨d.c2,d.c3,d.c4,d.c5,d.W4,d.W5,d.Wb⟩
theorem b7.put {h:D}{a:Nat}{i:U}{g:Nat}(l:b7 h a i g)(e b r f d c:Int):b7 ((((((h.setCell ⟨a,2,none⟩ (j e)).setCell ⟨a,3,none⟩ (j b)).setCell ⟨a,4,none⟩ (j r)).setCell ⟨a,5,none⟩ (j f)).setCell ⟨a,6,none⟩ (j d)).setCell ⟨a,7,none⟩ (j c)) a ⟨e,b,r,f,d,c⟩ g:=by
 obtain⟨k,o,p,m,n⟩:=l;exact⟨k,o,p,m.put e b r f d c,n⟩
def Bl (b c:Nat)(d a:D):Prop:=Below b d a/\∃i,b7 a b i (c+1)/\i.rd<=9223372036854775807/\i.V1<=9223372036854775807
def xX {f e:Nat}{a b:D}{i:U}(d:b7 a f i e)(g:i.rd<=9223372036854775807)(h:i.V1<=9223372036854775807)(c:Below a.heap.size a b):Bl f e a b:=
 ⟨c.mono (gm d.lt),i,(d.below c).mono (by omega),g,h⟩
theorem Du :∀(b:List (List L)) (a:List aC),(u.readAll a b).1.length<=a.length+b.length
 |[],a=>by simp[u.readAll]
 |c::b,a=>by
  simp only[u.readAll]
  split
  . have:=Du b (a++[(u.cl (u.tok c.length c) a).2])
    simp at this|-;omega
  . simp
def Sw (b:Int)(a:Nat):(u.dS b a).length=a:=by
 unfold u.dS;rw[strOfNums_data,gS,kS]
theorem CK (d:List aC):∀(a:List aC) (c:Nat) (b:List L),Tidy a->(u.lay d a c b).1.length<=b.length+4*a.length
 |[],c,b,_=>by simp[u.lay]
 |e::a,c,b,f=>by
  simp only[u.lay]
  have j:=f e (by simp)
  have g:Tidy a:=fun i h=>f i (by simp[h])
  split
  . simp
  . split
    . have:=CK d a (c+1) (b++u.dS (u.cO (u.eA d e b.length)).1 e.i.V4.toNat) g
      rw[mO,Sw]at this
      simp only[c6]
      omega
    . simp
def PO (a:List L):(u.g5 a).1.length<=4096:=by
 unfold u.g5;split
 . simp
 . split
   . simp
   . next e=>
     split
     . have c:=CK (u.readAll [] (u.bN [] a)).1 (u.readAll [] (u.bN [] a)).1 0 [] (xA _ _ (by intro f d;cases d));have b:=Du (u.bN [] a) [];rw[tB]at b;simp at c b;omega
     . simp
def Ov (b:Ending):Prop:=∃a:K,a.size<=4096/\b=.returned (.tuple #[.string a,.bool true])
def CH (a:K)(c:D):
 Calls prog 75 #[.string a] c fun d m=>Ov d/\Below c.heap.size c m:=by
 have hd:=OA a c;have f:=fun W=>aag a W;have g:=PO a.data.toList;obtain⟨o,i⟩:=y (u.g5 a.data.toList);rw[<-i]at hd f g;obtain⟨k,q,r⟩:=o;obtain⟨h,e⟩:=y (⟨k.toArray⟩:K);have n:Hid (h.size<=4096):=by rw[e];exact l (by show k.toArray.size<=4096;simpa using g)
 have b:=l hd;have HR:=l f;unfold u.aG at b HR;simp only at b HR;rw[<-e]at b HR;clear hd f i e g;go_enter func75,ntmps75;go_wp2_with fail;refine b.out.mono ?_;rintro d s ⟨rfl,j⟩;go_wp2_with fail;refine(HR.out _).mono ?_;rintro d t ⟨rfl,p⟩;go_wp2_with fail;go_ret2;exact⟨⟨h,n.out,rfl⟩,j.trans (p.mono j.size)⟩
def Sj (b r:Nat)(ac:r<1073741824)(P:bS)(w:dq P)(a:D)(ad:Hid (em a))(i:U)(s:Hid (b7 a b i r))(T:i.rd<=9223372036854775807)(V:i.V1<=9223372036854775807):
 Calls prog 34 #[I b,P.v] a fun p t=>p=.returned (.bool true)/\Bl b r a t:=by
 have g:Hid (∀n,Below a.heap.size a (a.alloc n)):=sa;have an:Hid (∀n,em (a.alloc n)):=fun n=>ad.out.more (g.out n);have u:=l w;obtain⟨f,h,e,k,v⟩:=P;have X:h<=9223372036854775807:=w.YH;have c:e<=9223372036854775807:=w.YI;have Z:k<=9223372036854775807:=w.c1;have d:=l (cW T (cW V (cW X (cW c Z))));obtain⟨ae,af,ag,ah,ai,aj,ak⟩:=s.out.c;have am:=s.out.lt;clear w ad T V X c Z;by_cases C:f=17
 . subst C;unfold bS.v;simp only;clear ae af ag ah ai aj ak;go_enter m1,m2;go_wp2_with fail;refine(Sa e _).mono ?_;exact Nq
 have aw:(f==17)=false:=by simp[C]
 by_cases E:f=18
 . subst E;unfold bS.v;simp only;have O:=s.out.put h e k 0 0 0;have B:=l (O.W3 ((Kept.refl _ _).alloc (bS.YX ⟨18,h,e,k,v⟩)));have Y:=((((((aq b a).setCell (p:=⟨b,2,none⟩) F (j h)).setCell (p:=⟨b,3,none⟩) F (j e)).setCell (p:=⟨b,4,none⟩) F (j k)).setCell (p:=⟨b,5,none⟩) F (j 0)).setCell (p:=⟨b,6,none⟩) F (j 0)).setCell (p:=⟨b,7,none⟩) F (j 0);have A:=l (Y.alloc (gm O.lt) (bS.YX ⟨18,h,e,k,v⟩));unfold bS.YX at B A;simp only at B A;clear O Y;go_enter m1,m2;go_wp2_with fail;go_ret;refine⟨rfl,?_,⟨h,e,k,0,0,0⟩,?_,d.out.2.2.2.1,d.out.2.2.2.2⟩
   . with_reducible exact A.out
   . exact b7.mono (by with_reducible exact B.out) m
 have ax:(f==18)=false:=by simp[E]
 by_cases G:f=19
 . subst G;unfold bS.v;simp only;have ab:=fun W=>Sf ⟨i.op,i.rd,i.V1,h,e,k⟩ d.out.1 d.out.2.1 d.out.2.2.1 W;have S:=l ab;unfold aV at S;clear ab;go_enter m1,m2;go_wp2_with fail;refine(S.out _).mono ?_;rintro p o ⟨rfl,c⟩;go_wp2_with fail;go_ret;exact⟨rfl,xX s.out d.out.1 d.out.2.1 (((g.out _).alloc (g.out _).size _).trans (c.mono ((g.out _).alloc (g.out _).size _).size))⟩
 have ay:(f==19)=false:=by simp[G]
 clear ae af ag ah ai aj ak;by_cases J:f=21
 . subst J;unfold bS.v;simp only;go_enter m1,m2;go_wp2_with fail;refine(Sr e _ (l (an.out _))).mono ?_;exact Nq
 have aA:(f==21)=false:=by simp[J]
 by_cases H:f=20
 . subst H;unfold bS.v;simp only;go_enter m1,m2;go_wp2_with fail;refine(CH v _).mono ?_;rintro p o ⟨⟨q,x,rfl⟩,c⟩;have d0:al o a.heap.size 0 (j 20):=ih;have y:=l ((g.out _).trans (c.mono (g.out _).size));clear c x;go_wp2_with fail;go_ret;exact⟨rfl,xX s.out d.out.1 d.out.2.1 y.out⟩
 have az:(f==20)=false:=by simp[H]
 by_cases L:f=22
 . subst L;have R:Hid (∀(q:K) (W:D),q.size<=4096->b7 W b i r->Calls prog 76 #[I b,.agg #[j 2,j h,j e,j k,.string q]] W fun p t=>p=.returned (.bool true)/\b7 t b i (r+1)/\Below b W t):=fun q W av ao=>CI b i r ac ⟨2,h,e,k,q⟩ ⟨u.out.a0,u.out.YH,u.out.YY,u.out.YI,u.out.V8,u.out.c1,by show q.size<=_;omega⟩ W (l ao);unfold bS.v;simp only;go_enter m1,m2;go_wp2_with fail;refine(CH v _).mono ?_;rintro p o ⟨⟨q,x,rfl⟩,c⟩;have d0:al o a.heap.size 0 (j 22):=ih;have d1:al o a.heap.size 1 (j h):=ih;have d2:al o a.heap.size 2 (j e):=ih;have d3:al o a.heap.size 3 (j k):=ih;have d4:al o a.heap.size 4 (.string v):=ih;have ar:o.frozen? ⟨a.heap.size,0,none⟩=false:=(c.frozen F).trans F;have au:o.frozen? ⟨a.heap.size,4,none⟩=false:=(c.frozen F).trans F;have y:=l ((g.out _).trans (c.mono (g.out _).size));have Q:Hid (Below a.heap.size a ((o.setCell ⟨a.heap.size,0,none⟩ (j 2)).setCell ⟨a.heap.size,4,none⟩ (.string q))):=l ((y.out.setCell F _).setCell F _);have aa:=R.out q _ x (s.out.below Q.out);have z:=l aa;clear c aa R x;go_wp2_with fail;refine z.out.mono ?_;rintro p ap ⟨rfl,N,M⟩;go_wp2_with fail;go_ret;exact⟨rfl,(Q.out.mono (gm am)).trans M,i,N,d.out.1,d.out.2.1⟩
 have aC:(f==22)=false:=by simp[L]
 have z:Hid (∀n,Calls prog 76 #[I b,.agg #[j f,j h,j e,j k,.string v]] (a.alloc n) fun p t=>p=.returned (.bool true)/\b7 t b i (r+1)/\Below b (a.alloc n) t):=fun n=>CI b i r ac ⟨f,h,e,k,v⟩ u.out (a.alloc n) (l (s.out.below (g.out n)));unfold bS.v;simp only;clear C E G H J L;go_enter m1,m2;go_wp2_with fail;refine(z.out _).mono ?_;rintro p ap ⟨rfl,N,M⟩;go_wp2_with fail;go_ret;exact⟨rfl,((g.out _).mono (gm am)).trans M,i,N,d.out.1,d.out.2.1⟩
structure p0 (c:D)(a b:Nat)(d:bS):Prop where
 V8:c.cell? ⟨a,b,none⟩=some (j d.k)
 c1:c.cell? ⟨a,b+1,none⟩=some (j d.a)
 c2:c.cell? ⟨a,b+2,none⟩=some (j d.b)
 c3:c.cell? ⟨a,b+3,none⟩=some (j d.c)
 c4:c.cell? ⟨a,b+4,none⟩=some (.string d.s)
def jN (e:D)(p:Option Addr)(a:List bS):Prop:=a=[]\/∃b d,p=some ⟨b,d,none⟩/\b<e.heap.size/\∀c (f:c<a.length),p0 e b (d+c*5) a[c]
def p0.below {h f:D}{a b g:Nat}{i:bS}(c:p0 h a b i)(d:Below g h f)(e:a<g):p0 f a b i:=
 ⟨(d.cell (p:=⟨a,b,none⟩) e).trans c.V8,(d.cell (p:=⟨a,b+1,none⟩) e).trans c.c1,(d.cell (p:=⟨a,b+2,none⟩) e).trans c.c2,(d.cell (p:=⟨a,b+3,none⟩) e).trans c.c3,(d.cell (p:=⟨a,b+4,none⟩) e).trans c.c4⟩
theorem jN.below {b c:D}{p:Option Addr}{d:List bS}(a:jN b p d)(e:Below b.heap.size b c):jN c p d:=by
 rcases a with a|⟨g,j,rfl,f,a⟩
 . exact .inl a
 . exact .inr ⟨g,j,rfl,aQ f e.size,fun i h=>(a i h).below e f⟩
def Oz (b:Nat)(a:Ending):Prop:=∃r,a=.returned (.bool r)/\(r=true->b<=1073741824)
def Si (p:Option Addr)(n:Nat)(a:List bS)(x:a.length<=1125899906842624)(r:Hid (∀u∈a,dq u))(f:D)(t:Hid (jN f p a)):
 Calls prog 19 #[.slice p a.length n] f fun o l=>Oz a.length o/\l=f:=by
 by_cases z:1073741824<a.length
 . have h:decide (1073741824< (a.length:Int))=true:=M;go_enter func19,ntmps19;go_wp2;go_ret;exact⟨⟨_,rfl,by simp⟩,rfl⟩
 . have h:decide (1073741824< (a.length:Int))=false:=M;go_enter func19,ntmps19;go_wp2;go_loop [3,4] (fun m e=>∃b i:Nat,b<=1073741824/\i<=a.length/\m=j b/\e=j i) (fun _ e=>a.length- (intOf e).toNat);case atStart=>exact⟨a.length,0,by omega,by omega,rfl,rfl⟩
   case round=>
    obtain⟨b,i,C,B,rfl,rfl⟩:=hrel;by_cases c:i<a.length
    . rcases t.out with k|⟨w,F,rfl,A,g⟩
      . exact lV
      have c4:=(g i c).c4;have s:=(r.out a[i] (gd c)).s1;obtain⟨d,hS⟩:=y (a[i].s);rw[<-hS]at c4 s;clear hS g;by_cases E:1073741824<b+d.size
      . have q:decide (1073741824< (b:Int)+(d.size:Int))=true:=M;exact Nr
      . have q:decide (1073741824< (b:Int)+(d.size:Int))=false:=M;go_wp2;go_round;case rel=>exact⟨b+d.size,i+1,by omega,by omega,by go_num,by go_num⟩
        case measure=>exact a4
    . have v:decide ((i:Int)< (a.length:Int))=false:=M;exact Nr
def q5 :Obj:=.cells #[.slice none 0 0,.slice none 0 0,j 0,j 0,j 0,j 0,j 0,j 0] 62
def b7.new (c:D):b7 (c.alloc q5) c.heap.size ⟨0,0,0,0,0,0⟩ 0:=by
 refine⟨[],.slice none 0 0,.slice none 0 0,?_,by simp⟩;unfold q5;refine⟨?_,?_,?_,?_,?_,?_,?_,?_,?_,?_,World.ownsRow_nil _ _ _ _,World.ownsRow_nil _ _ _ _,?_,?_,?_,?_,?_,?_⟩;case refine_11=>intro b a;simp at a
 case refine_12=>intro b a;simp at a
 case refine_13=>intro b a;simp at a
 case refine_14=>intro b a;simp at a
 case refine_15=>intro e a;simp[Value.ownBlock]at a
 case refine_16=>intro b d a;simp at a
 all_goals simp
def g3 :N:=kV (hN 64) 0 ⟨#[147,0,176,255]⟩
def By :dL (hN 64).b 0 ⟨#[147,0,176,255]⟩=0:=by kernel_rfl
def O2 :(cJ g3).1.1=0:=by kernel_rfl
def O3 :(cJ g3).2.x.getD 1 0=4294967291:=by kernel_rfl
def R9 (a:D):ac 20 #[] (.bool true) a:=by
 have h:=l (Fx 64 R a);have i:=C0 64 R;have c:=l (fun W (d:E W (a.heap.size+1) a.heap.size (hN 64))=>ET (a.heap.size+1) a.heap.size (hN 64) i 0 ⟨#[147,0,176,255]⟩ W d);have r:nW (hN 64) 0 ⟨#[147,0,176,255]⟩=g3:=by unfold nW;rw[B By];rfl
 have t:aj g3:=CT i 0 _;have b:=l (fun W (d:E W (a.heap.size+1) a.heap.size g3)=>yn (a.heap.size+1) a.heap.size g3 t W (l d));have f:=l (fun W (d:E W (a.heap.size+1) a.heap.size (cJ g3).2)=>EU (a.heap.size+1) a.heap.size (cJ g3).2 1 W d);have s:jm (cJ g3).2.x 1=(4294967291,0):=by
  unfold jm;rw[B (by decide)];show((((cJ g3).2.x.getD 1 0:Nat):Int),(0:Int))=_;rw[O3];rfl
 simp only[r,By]at c;unfold eE at b;simp only[O2]at b;simp only[s]at f;generalize (cJ g3).2=H at b f;generalize (cJ g3).1.2=q at b;generalize g3=I at c b;generalize hN 64=G at h c;clear r s i t;go_enter func20,ntmps20;go_wp2_with fail;refine h.out.mono ?_;rintro m A ⟨rfl,w,u⟩;have n:=l (c.out A w);have g:=l (gx u F (aB _));clear h c w u;go_wp2_with fail;refine n.out.mono ?_;rintro m C ⟨rfl,x,v⟩;have p:=l (b.out C x);have e:=l (g.out.trans (gx v F g.out.size));clear n b x v g;go_wp2_with fail;refine p.out.mono ?_;rintro m w3 ⟨rfl,y,k⟩;have o:=l (f.out _ (y.alloc (.cells #[j 0,j q] 45)));have z:=l ((e.out.trans (gx k F e.out.size)).alloc (fD e.out.size k.size) (.cells #[j 0,j q] 45));clear p f y k e;go_wp2_with fail;refine o.out.mono ?_;rintro m J ⟨rfl,rfl⟩;clear o;go_wp2_with fail;go_ret;exact⟨rfl,z.out⟩
def wl (c:D)(a b:Nat):Prop:=∃i,b7 c a i b/\i.rd<=9223372036854775807/\i.V1<=9223372036854775807
def RY (p:Option Addr)(G:Nat)(b:List bS)(Q:b.length<=1073741824)(H:Hid (∀h∈b,dq h))(held:Int)(a:D)(J:Hid (jN a p b))(I:Hid (em a)):
 ac 21 #[.slice p b.length G,j held] (j (-1)) a:=by
 have n:Hid (Below a.heap.size a (a.alloc q5)):=lT;have o:Hid (wl (a.alloc q5) a.heap.size 0):=⟨_,b7.new a,by show(0:Int)<=_;decide,by show(0:Int)<=_;decide⟩;unfold q5 at n o;go_enter func21,ntmps21;go_wp2_with fail;go_loopw [6] (fun q wr=>∃i:Nat,i<=b.length/\q=j i/\Hid (Below a.heap.size a wr)/\Hid (wl wr a.heap.size i)) (fun q _=>b.length- (intOf q).toNat);case atStart=>exact⟨0,by omega,rfl,n,o⟩
 case round=>
  obtain⟨d,S,rfl,f,v⟩:=hrel;clear n o;by_cases c:d<b.length
  . have A:=l (J.out.below f.out);have B:=l (I.out.more f.out);rcases A.out with k|⟨O,T,rfl,R,e⟩
    . exact lV
    have e:=e d c;have s:=H.out b[d] (gd c);obtain⟨h,C⟩:=y (b[d]);rw[<-C]at e s;clear C;obtain⟨K,w,x,z⟩:=v.out;have g:=Sj a.heap.size d m h s wr B K (l w) x z;obtain⟨X,U,V,W,Y⟩:=h;unfold bS.v at g;simp only at g;have t:=l g;obtain⟨u,c1,c2,c3,c4⟩:=id e;simp only at u c1 c2 c3 c4;clear g e s w x z v A B;go_wp2_with fail;refine t.out.mono ?_;rintro P L ⟨rfl,r⟩;have E:=l (f.out.trans r.1);have F:Hid (wl L a.heap.size (d+1)):=r.2;clear u c1 c2 c3 c4 t r;go_wp2_with fail;go_roundw;case rel=>exact⟨d+1,by omega,by go_num,E,F⟩
    case measure=>exact a4
  . have N:decide ((d:Int)< (b.length:Int))=false:=M;go_wp2_with fail;go_ret;exact⟨rfl,f.out⟩
def jN.Z0 {a b:D}(c:em a)(d:Below a.heap.size a b):em b:=c.more d
def Sh (p:Option Addr)(c:Nat)(a:List bS)(t:a.length<=1125899906842624)(i:Hid (∀z∈a,dq z))(held:Int)(v:held=518\/held=538\/held=738\/held=64002\/held=8388607)(b:D)(m:Hid (jN b p a))(x:Hid (em b)):
 ac 14 #[.slice p a.length c,j held] (.bool true) b:=by
 have o:=l (Si p c a t i b m);have f:=l (fun W (s:a.length<=1073741824) (h:Below b.heap.size b W)=>RY p c a s i held W (l (m.out.below h)) (l (x.out.more h)));have n:=l (R9 b);rcases v with rfl|rfl|rfl|rfl|rfl;all_goals
  go_enter func14,ntmps14;go_wp2_with fail;refine o.out.mono ?_;rintro g A ⟨⟨r,rfl,e⟩,rfl⟩;have k:=l e;clear e;cases r
  . exact Ns
  . have w:=l (k.out rfl);clear k;go_wp2_with fail;refine n.out.mono ?_;rintro g y ⟨rfl,d⟩;have q:=l (f.out y w.out d);clear f;go_wp2_with fail;refine q.out.mono ?_;rintro g w3 ⟨rfl,u⟩;go_wp2_with fail;go_ret;exact⟨rfl,d.trans (u.mono d.size)⟩
end
def RX (p:Option Addr)(d:Nat)(b:List bS)(f:b.length<=1125899906842624)(g:Hid (∀j∈b,dq j))(c:D)(i:Hid (jN c p b))(h:Hid (em c)):
 ac 12 #[.slice p b.length d] (.bool true) c:=by
 have e:=l (Sh p d b f g 8388607 (.inr (.inr (.inr (.inr rfl)))) c i h);go_enter func12,ntmps12;go_wp2_with fail;refine e.out.mono ?_;exact Au
end Go.Proofs.YtmlgonbhoknoiabGreatDoor
