import Derived.Test.YtmlgonbhoknoiaaGreatDoorJBK
import Derived.Test.YtmlgonbhoknoiaaGreatDoorJBO
set_option maxHeartbeats 8000000
set_option maxRecDepth 100000
set_option linter.all false
namespace Go.Proofs.YtmlgonbhoknoiaaGreatDoor
open Go.RowKit Go.Proofs.Tryz
section
attribute [local go_sem ↓] Go.wp_at_zero Go.wp_at_succ
def lZ (c:D)(p:aN)(b:Ending)(a:D):Prop:=b=.returned (.bool true)/\bG a p/\Kept [] c a
def Sq (p:aN)(e h k:Int)(q:K)(m:cw ⟨11,e,h,k,q⟩)(b:D)(i:Hid (bG b p)):
 Calls prog 98 #[I p.Wk,I p.Wn,.agg #[j 11,j e,j h,j k,.string q]] b fun o u=>lZ b p o u:=by
 have f:Kept [] b (b.alloc (.cells #[j 11,j e,j h,j k,.string q] 39)):=dE;have g:=i.out.W3 f;have d:=g.both;have s:=bg.new b [j 11,j e,j h,j k,.string q] 39;have c:=l (fun W (r:E W p.Wk p.WQ p.X)=>af9 p.Wk p.WQ p.X d.1.ok W (l r));have a:=l (fun W (r:V W p.Wn p.WY p.WZ p.W0 p.W1 p.W2)=>aeC p.Wn p.WY p.WZ p.W0 p.W1 p.W2 d.ok W (l r));have o:=Py d;simp only[o]at a;clear o;generalize qu p.X=y at c a;exact Az
def Sr (p:aN)(e b c:Int)(f:K)(q:cw ⟨12,e,b,c,f⟩)(d:D)(z:Hid (bG d p)):
 Calls prog 98 #[I p.Wk,I p.Wn,.agg #[j 12,j e,j b,j c,.string f]] d fun m H=>lZ d p m H:=by
 have r:Kept [] d (d.alloc (.cells #[j 12,j e,j b,j c,.string f] 39)):=dE;have i:=z.out.W3 r;have o:=i.both;have C:=bg.new d [j 12,j e,j b,j c,.string f] 39;have x:=q.V8;have k:=q.c1;obtain⟨M,m,g,y⟩:=abF p.Wk p.WQ p.X o.1 b c k _ i.x;have g:=l g;have a:=l (fun W (J:V W p.Wn p.WY p.WZ p.W0 p.W1 p.W2)=>abA p.Wn p.WY p.WZ p.W0 p.W1 p.W2 p.X o b c x k M m y W J);clear y x k;have v:=l i;have u:=l r;clear i r q z o;go_enter func98,ntmps98;go_wp2_with fail;refine g.out.mono ?_;rintro L E ⟨rfl,A⟩;have h:Kept [] (d.alloc (.cells #[j 12,j e,j b,j c,.string f] 39)) E:=by rw[A];exact Kept.refl _ _
 clear A;have n:=l (v.out.W3 h);have s:=C.kept h;have F:=s.cell 2 _ rfl;have G:=s.cell 3 _ rfl;have w:=l (u.out.trans h);clear h C s g v u;go_wp2_with fail;refine(a.out _ n.out.r).mono ?_;rintro L N ⟨rfl,B⟩;have t:Kept [] E N:=by rw[B];exact Kept.refl _ _
 clear B;exact LZ
def Ss (p:aN)(e b o:Int)(r:K)(m:cw ⟨13,e,b,o,r⟩)(h:D)(i:Hid (bG h p)):
 Calls prog 98 #[I p.Wk,I p.Wn,.agg #[j 13,j e,j b,j o,.string r]] h fun q k=>lZ h p q k:=by
 have f:Kept [] h (h.alloc (.cells #[j 13,j e,j b,j o,.string r] 39)):=dE;have g:=i.out.W3 f;have d:=g.both;have s:=bg.new h [j 13,j e,j b,j o,.string r] 39;have c:=l (fun W (u:E W p.Wk p.WQ p.X)=>(EA p.Wk p.WQ p.X b W u).mono (fun y k ⟨e,b⟩=>(⟨e,by rw[b];exact Kept.refl _ _⟩:_/\Kept [] W k)));have a:=l (fun W (u:V W p.Wn p.WY p.WZ p.W0 p.W1 p.W2)=>(abB p.Wn p.WY p.WZ p.W0 p.W1 p.W2 b W u).mono (fun y k ⟨e,b⟩=>(⟨e,by rw[b];exact Kept.refl _ _⟩:_/\Kept [] W k)));have q:=(BA d).2.2.2;simp only[q]at a;clear q;generalize (jj p.X.x b).1=A at c a;generalize (jj p.X.x b).2=B at c a;exact Az
def St (p:aN)(h b k:Int)(o:K)(m:cw ⟨14,h,b,k,o⟩)(e:D)(i:Hid (bG e p)):
 Calls prog 98 #[I p.Wk,I p.Wn,.agg #[j 14,j h,j b,j k,.string o]] e fun u r=>lZ e p u r:=by
 have f:Kept [] e (e.alloc (.cells #[j 14,j h,j b,j k,.string o] 39)):=dE;have g:=i.out.W3 f;have d:=g.both;have s:=bg.new e [j 14,j h,j b,j k,.string o] 39;have c:=l (fun W (q:E W p.Wk p.WQ p.X)=>afS p.Wk p.WQ p.X d.1.ok b W (l q));have a:=l (fun W (q:V W p.Wn p.WY p.WZ p.W0 p.W1 p.W2)=>abx p.Wn p.WY p.WZ p.W0 p.W1 p.W2 p.X d b m.YY m.YI W q);generalize ((j6 p.X b).1:Int)=y at c a;generalize (j6 p.X b).2=A at c a;exact Az
def Su (p:aN)(i k m:Int)(q:K)(G:cw ⟨15,i,k,m,q⟩)(d:D)(A:Hid (bG d p)):
 Calls prog 98 #[I p.Wk,I p.Wn,.agg #[j 15,j i,j k,j m,.string q]] d fun C B=>lZ d p C B:=by
 have n:Kept [] d (d.alloc (.cells #[j 15,j i,j k,j m,.string q] 39)):=dE;have o:=A.out.W3 n;have z:=o.both;obtain⟨v,w,x,F⟩:=BA z;have y:p.W2.b.o.length=p.X.b.o.length:=by rw[x]
 have s:=l (fun W (a:E W p.Wk p.WQ p.X)=>af2 p.Wk p.WQ p.X W (l a));have f:=l (fun W (a:V W p.Wn p.WY p.WZ p.W0 p.W1 p.W2)=>aew p.Wn p.WY p.WZ p.W0 p.W1 p.W2 W (l a));have t:=l (fun W (a:E W p.Wk p.WQ p.X)=>af0 p.Wk p.WQ p.X W (l a));have g:=l (fun W (a:V W p.Wn p.WY p.WZ p.W0 p.W1 p.W2)=>aet p.Wn p.WY p.WZ p.W0 p.W1 p.W2 W (l a));have u:=l (fun W (a:E W p.Wk p.WQ p.X)=>aga p.Wk p.WQ p.X W (l a));have h:=l (fun W (a:V W p.Wn p.WY p.WZ p.W0 p.W1 p.W2)=>aeD p.Wn p.WY p.WZ p.W0 p.W1 p.W2 W (l a));simp only[v]at f;simp only[w]at g;simp only[y]at h;clear v w x F y;generalize (p.X.V3:Int)=H at s f;generalize (p.X.mode:Int)=J at t g;generalize (p.X.b.o.length:Int)=L at u h;have b:=l o;have r:=l n;clear o n G A z;go_enter func98,ntmps98;go_wp2_with fail;refine(s.out _ b.out.x).mono ?_;rintro c e ⟨rfl,rfl⟩;go_wp2_with fail;refine(f.out _ b.out.r).mono ?_;rintro c e ⟨rfl,rfl⟩;go_wp2_with fail;refine(t.out _ b.out.x).mono ?_;rintro c e ⟨rfl,rfl⟩;go_wp2_with fail;refine(g.out _ b.out.r).mono ?_;rintro c e ⟨rfl,rfl⟩;go_wp2_with fail;refine(u.out _ b.out.x).mono ?_;rintro c e ⟨rfl,rfl⟩;go_wp2_with fail;refine(h.out _ b.out.r).mono ?_;rintro c e ⟨rfl,rfl⟩;exact L0
def Sv (p:aN)(d:bA)(e:¬(11<=d.k/\d.k<=15))(c:D)(f:Hid (bG c p)):
 Calls prog 98 #[I p.Wk,I p.Wn,d.v] c fun m g=>lZ c p m g:=by
 obtain⟨a,h,i,k,n⟩:=d;unfold bA.v;simp only at e|-;have r:=l ((Kept.refl [] c).alloc (.cells #[j a,j h,j i,j k,.string n] 39));have b:=l (f.out.W3 r.out);have o:(a==11)=false:=M;have q:(a==12)=false:=M;have s:(a==13)=false:=M;have t:(a==14)=false:=M;have u:(a==15)=false:=M;clear f e;go_enter func98,ntmps98;exact L0
def Sw (p:aN)(c:bA)(g:cw c)(a:D)(b:Hid (bG a p)):
 Calls prog 98 #[I p.Wk,I p.Wn,c.v] a fun l k=>lZ a p l k:=by
 by_cases j:¬(11<=c.k/\c.k<=15)
 . exact Sv p c j a b
 . obtain⟨h,d,e,f,i⟩:=c;simp only at j;have m:h=11\/h=12\/h=13\/h=14\/h=15:=J;rcases m with rfl|rfl|rfl|rfl|rfl
   . exact Sq p d e f i g a b
   . exact Sr p d e f i g a b
   . exact Ss p d e f i g a b
   . exact St p d e f i g a b
   . exact Su p d e f i g a b
theorem b8.W3 {c a:D}{d:Nat}{i:U}{b:Nat}(f:b8 c d i b)(j:Kept [] c a):b8 a d i b:=by
 obtain⟨e,k,l,g,h⟩:=f;exact⟨e,k,l,g.W3 j,h⟩
def b8.mono {c:D}{d:Nat}{i:U}{b a:Nat}(f:b8 c d i b)(l:b<=a):b8 c d i a:=by
 obtain⟨e,h,j,g,k⟩:=f;exact⟨e,h,j,g,by omega⟩
theorem b8.lt {a:D}{b:Nat}{i:U}{e:Nat}(c:b8 a b i e):b<a.heap.size:=by
 obtain⟨f,h,j,d,g⟩:=c;exact d.lt
def Sk (b:Nat)(i:U)(c:Nat)(s:c<1073741824)(h d k:Int)(n:K)(a:D)(e:Hid (b8 a b i c)):
 Calls prog 45 #[I b,.agg #[j 1,j h,j d,j k,.string n]] a fun m g=>m=.returned (.bool true)/\b8 g b i (c+1)/\Below b a g:=by
 have f:Kept [] a (a.alloc (.cells #[j 1,j h,j d,j k,.string n] 39)):=dE;have o:=l (gy f F (gn e.out.lt));have p:=l (So b i c s d _ (l (e.out.W3 f)));clear f e;go_enter func45,ntmps45;go_wp2_with fail;refine p.out.mono ?_;rintro m t ⟨rfl,q,r⟩;go_wp2_with fail;go_ret;exact⟨rfl,q,o.out.trans r⟩
def Sj (b:Nat)(i:U)(c:bA)(h:¬c.k=1)(p:Option Addr)(d:Nat)(a:D)(k:a.cell? ⟨b,0,none⟩=some (.slice p 0 d))(l:b<a.heap.size):
 aE 45 #[I b,c.v] (.bool true) a:=by
 obtain⟨e,f,g,j,n⟩:=c;unfold bA.v;simp only at h|-;have m:(e==1)=false:=ni;clear h;go_enter func45,ntmps45;exact JC
def Sl (q:Nat)(i:U)(r:bA)(x:cw r)(h:¬r.k=1)(S:¬r.k=9)(b:List aN)(g N O af:Nat)(aq:0<b.length)(aC:b.length<=1073741824)(c:D)(k:Hid (cE c q i b (b.map aN.Wk) (b.map aN.Wn) (.slice (some ⟨g,0,none⟩) b.length N) (.slice (some ⟨O,0,none⟩) b.length af))):
 Calls prog 45 #[I q,r.v] c fun A v=>A=.returned (.bool true)/\b8 v q i b.length/\Below q c v:=by
 have z:=fun p W (B:bG W p)=>l (Sg p r x W (l B));have LT:=fun p W (B:bG W p)=>l (Sw p r x W (l B));have Q:=x.a0;have R:=x.YH;obtain⟨o,w,L,M,aa⟩:=r;unfold bA.v at z LT|-;simp only at h S Q R z LT|-;have aG:(o==1)=false:=ni;have aH:(o==9)=false:=by simp[S]
 have aI:((b.length:Int)==0)=false:=b5.2 m;have V:Kept [] c (c.alloc (.cells #[j o,j w,j L,j M,.string aa] 39)):=dE;have e:=l (k.out.W3 V.drew);have aw:=k.out.V8;have d0:=e.out.V8;have d1:=e.out.c1;have f:=(bg.new c [j o,j w,j L,j M,.string aa] 39).drew;have al:=f.cell 0 _ rfl;have X:=f.cell 1 _ rfl;have aE:=k.out.lt;have ae:=fun W=>l (Co w Q R b.length aq m W);have ac:=l V.drew;clear V h S x Q R;go_enter func45,ntmps45;go_upto_region 5 with fail;go_region_held3 (fun v=>v.cell? ⟨c.heap.size,1,none⟩=some (j w)/\v.cell? ⟨q,0,none⟩=some (.slice (some ⟨g,0,none⟩) b.length N)) (first|exact⟨X,d0⟩|go_keep) (first|(go_at_call 95;refine(ae _).out.mono ?_;rintro A C ⟨⟨a,d,rfl⟩,rfl⟩));all_goals
  obtain⟨K,P⟩:=y ((c.alloc (.cells #[j o,j w,j L,j M,.string aa] 39)).drew);rw[<-P]at e ac d0 d1 al X f|-;have Z:=e.out.Xo;have Y:=e.out.Xp;rw[gT]at Z Y;have ag:K.cell? ⟨g,a,none⟩=some (.pointer (some ⟨b[a].Wk,0,none⟩)):=by
   rw[Z.cellAt a (by omega)];simp[iB,d]
  have ah:K.cell? ⟨O,a,none⟩=some (.pointer (some ⟨b[a].Wn,0,none⟩)):=by
   rw[Y.cellAt a (by omega)];simp[iB,d]
  have am:=e.out.Xs a d;have G:=z b[a] K am;have aj:¬c.heap.size∈b[a].WV:=Hr;obtain⟨p,T⟩:=y (b[a]);rw[<-T]at ag ah G aj;have ab:=l T;have ar:=f.cell 2 _ rfl;have au:=f.cell 3 _ rfl;have av:=f.cell 4 _ rfl;have aD:(a:Int)< (b.length:Int):=J;have B:=l P;clear T Z Y am z ae P;go_wp2_with fail;refine G.out.mono ?_;rintro A C ⟨rfl,u,E,n,t⟩;have H:=LT u C E;rw[n.Wk,n.Wn]at H;have s:=f.more t aj;have ax:=s.cell 0 _ rfl;have ay:=s.cell 1 _ rfl;have az:=s.cell 2 _ rfl;have aA:=s.cell 3 _ rfl;have aB:=s.cell 4 _ rfl;have ad:Hid (b8 C q i b.length):=by
   rw[ab.out]at n t;refine⟨b.set a u,.slice (some ⟨g,0,none⟩) b.length N,.slice (some ⟨O,0,none⟩) b.length af,?_,by simp⟩;have ao:(b.set a u).map aN.Wk=b.map aN.Wk:=by
    rw[List.map_set,n.Wk];exact xv _ _ (by simpa using d) _ F
   have ap:(b.set a u).map aN.Wn=b.map aN.Wn:=by
    rw[List.map_set,n.Wn];exact xv _ _ (by simpa using d) _ F
   rw[ao,ap];exact e.out.act a d u E n t
  have an:Hid (Below q c C):=by
   have ai:=e.out.ge a d;rw[<-ab.out]at ai;exact l ((gy ac.out F m).trans (gy t (fun o h=>gn (ai o h)) (gn e.out.lt)))
  clear G LT E n t f s al X ar au av ag ah d0 d1;go_wp2_with fail;refine H.out.mono ?_;rintro A aJ ⟨rfl,aF,ak⟩;clear H;go_wp2_with fail;go_ret;exact⟨rfl,ad.out.W3 ak,an.out.trans (gy ak F (gn ad.out.lt))⟩
def Sm (o:Nat)(i:U)(G:bA)(ab:cw G)(aG:G.k=9)(b:List aN)(g ay aD aT:Nat)(aW:0<b.length)(a8:b.length<1073741824)(f:D)(k:Hid (cE f o i b (b.map aN.Wk) (b.map aN.Wn) (.slice (some ⟨g,0,none⟩) b.length ay) (.slice (some ⟨aD,0,none⟩) b.length aT))):
 Calls prog 45 #[I o,G.v] f fun e s=>e=.returned (.bool true)/\b8 s o i (b.length+1)/\Below o f s:=by
 have ar:=fun(p:aN) W (u:bG W p)=>l (afR p.Wk p.WQ p.X u.both.1.ok.b.o W (l u.x));have LT:=fun(p:aN) W (aY:bw p.W2 p.X) (u:V W p.Wn p.WY p.WZ p.W0 p.W1 p.W2)=>l (ael p.Wn p.WY p.WZ p.W0 p.W1 p.W2 aY.ok.b.o W (l u));have X:=ab.a0;have Y:=ab.YH;obtain⟨r,q,P,Q,ah⟩:=G;unfold bA.v;simp only at aG X Y|-;subst aG;have bc:((b.length:Int)==0)=false:=b5.2 m;have ac:Kept [] f (f.alloc (.cells #[j 9,j q,j P,j Q,.string ah] 39)):=dE;have c:=l (k.out.W3 ac.drew);have ax:=k.out.V8;have d0:=c.out.V8;have d1:=c.out.c1;have E:=(bg.new f [j 9,j q,j P,j Q,.string ah] 39).drew;have aI:=E.cell 0 _ rfl;have ae:=E.cell 1 _ rfl;have ba:=k.out.lt;have au:=fun W=>l (Co q X Y b.length aW m W);have an:=l ac.drew;clear ac ab X Y;go_enter func45,ntmps45;go_upto_region 5 with fail;go_region_held3 (fun s=>s.cell? ⟨f.heap.size,1,none⟩=some (j q)/\s.cell? ⟨o,0,none⟩=some (.slice (some ⟨g,0,none⟩) b.length ay)) (first|exact⟨ae,d0⟩|go_keep) (first|(go_at_call 95;refine(au _).out.mono ?_;rintro e aM ⟨⟨a,d,rfl⟩,rfl⟩));all_goals
  obtain⟨h,T⟩:=y ((f.alloc (.cells #[j 9,j q,j P,j Q,.string ah] 39)).drew);rw[<-T]at c an d0 d1 aI ae E|-;have ag:=c.out.Xo;have af:=c.out.Xp;rw[gT]at ag af;have aA:h.cell? ⟨g,a,none⟩=some (.pointer (some ⟨b[a].Wk,0,none⟩)):=by
   rw[ag.cellAt a (by omega)];simp[iB,d]
  have aB:h.cell? ⟨aD,a,none⟩=some (.pointer (some ⟨b[a].Wn,0,none⟩)):=by
   rw[af.cellAt a (by omega)];simp[iB,d]
  have aJ:=c.out.Xs a d;have M:=ar b[a] h aJ;have aZ:¬f.heap.size∈b[a].WV:=Hr;obtain⟨p,Z⟩:=y (b[a]);rw[<-Z]at aA aB M aZ;have aS:=l Z;have a9:(a:Int)< (b.length:Int):=J;have u:=l T;clear Z ag af aJ ar au T;go_wp2_with fail;refine M.out.mono ?_;rintro e aM ⟨rfl,aH,A⟩;have v:=(c.out.Xs a d).W3 A;rw[<-aS.out]at v;have av:=LT p aM v.both v.r;have N:=l aH;have ao:=l A;have ap:=l (c.out.W3 A);have aF:=l v.both;clear M LT aH A v E aI ae aA aB d0 d1;go_wp2_with fail;refine av.out.mono ?_;rintro e aO ⟨⟨ad,aw,aC,aP,aL,rfl,a3,a4,a5,a6,a7,aa⟩,B⟩;have bd:=N.out.Ww;have C:=aa.nodup;have aq:=ap.out.W3 B;have aK:bG aO ⟨h.heap.size,h.heap.size+1,ad,aw,aC,aP,aL,p.X,p.W2⟩:=by
   refine⟨N.out.kept B,aa,aF.out,?_⟩;simp only[aN.WV,gS]at C|-;simp only[dD,eR,eS,gi]at C|-;exact⟨⟨by omega,by omega,by omega,by omega,by omega,by omega⟩,⟨by omega,by omega,by omega,by omega,by omega⟩,C⟩
  have t:=aq.Zp _ aK h.heap.size (by
   intro r n;simp only[aN.WV,dD,eR,eS]at n;rcases n with e|e|e|e|e|e|e<;>omega) c.out.lt (fun r n=>(c.out.Xo.lt r n).2) (fun r n=>(c.out.Xp.lt r n).2) (fun q aX r n=>(c.out.Xs q aX).lt r n)
  have ak:Hid (Below o f aO):=l (gy ((an.out.trans ao.out).trans B) F m);clear aq aK C aa B av N ao ap aF;obtain⟨O,x⟩:=y (b.map aN.Wk);obtain⟨w,z⟩:=y (b.map aN.Wn);rw[<-x,<-z]at t;have a0:O.length<=1073741824:=by rw[x,gT];omega
  have a1:w.length<=1073741824:=by rw[z,gT];omega
  have ax:=t.V8;have bb:=t.lt;have am:=l t;have aj:=l (cZ x z);clear x z t c k;go_wp2_with(at_builtin;refine E5 rfl (.tmp 59) (.tmp 61) rfl am.out h.heap.size a0 rfl _ rfl rfl ?_);intro aE az w3 L4 d0 aU aV al;have c1:=L4.c1;have L:=l L4;have H:=l (ak.out.trans (so al 0 (.slice (some ⟨aE,0,none⟩) (O.length+1) az)));clear L4 am ak al ax;go_wp2_with(at_builtin;refine E4 rfl (.tmp 69) (.tmp 71) rfl L.out ad a1 rfl w3.heap.size F rfl ?_);intro S R a2 ai d0 aU aV K;have aQ:=l (so (H.out.trans K) 1 (.slice (some ⟨S,0,none⟩) (w.length+1) R));have aR:Hid (b8 (a2.setCell ⟨o,1,none⟩ (.slice (some ⟨S,0,none⟩) (w.length+1) R)) o i (b.length+1)):=by
   refine⟨b++[⟨h.heap.size,h.heap.size+1,ad,aw,aC,aP,aL,p.X,p.W2⟩],.slice (some ⟨aE,0,none⟩) (O.length+1) az,.slice (some ⟨S,0,none⟩) (w.length+1) R,?_,?_⟩
   . exact L6
   . simp
  exact L5
def Cn (b:Nat)(i:U)(q:Nat)(B:q<1073741824)(c:bA)(x:cw c)(h:D)(s:Hid (b8 h b i q)):
 Calls prog 45 #[I b,c.v] h fun n j=>n=.returned (.bool true)/\b8 j b i (q+1)/\Below b h j:=by
 by_cases o:c.k=1
 . obtain⟨J,d,a,k,C⟩:=c;simp only at o;subst o;exact Sk b i q B d a k C h s
 . obtain⟨r,E,K,f,H⟩:=s.out;have t:=f.Xo;have z:=f.Xp;rw[gT]at t z;by_cases A:r.length=0
   . have hu:∃p e,E=.slice p 0 e:=by
      rcases t.2 with⟨n,_⟩|⟨g,e,G,n,_⟩
      . exact⟨_,_,n⟩
      . exact⟨_,_,by rw[n,A]⟩
     obtain⟨p,e,rfl⟩:=hu;exact(Sj b i c o p e h f.V8 f.lt).mono (fun y j ⟨d,a⟩=>⟨d,(s.out.W3 a).mono m,gy a F (gn f.lt)⟩)
   . obtain⟨g,e,rfl,_,_⟩:=t.form m;obtain⟨v,u,rfl,_,_⟩:=z.form m;by_cases w:c.k=9
     . exact(Sm b i c x w r g e v u m m h (l f)).mono (fun y j ⟨d,a,k⟩=>⟨d,a.mono m,k⟩)
     . exact(Sl b i c x o w r g e v u m m h (l f)).mono (fun y j ⟨d,a,k⟩=>⟨d,a.mono m,k⟩)
def b8.below {a b:D}{d:Nat}{i:U}{c:Nat}(e:b8 a d i c)(f:Below a.heap.size a b):b8 b d i c:=e.W3 (Below.k f)
def b8.c {a:D}{b:Nat}{i:U}{n:Nat}(e:b8 a b i n):a.cell? ⟨b,2,none⟩=some (j i.op)/\a.cell? ⟨b,3,none⟩=some (j i.rd)/\a.cell? ⟨b,4,none⟩=some (j i.V1)/\a.cell? ⟨b,5,none⟩=some (j i.V6)/\a.cell? ⟨b,6,none⟩=some (j i.V2)/\a.cell? ⟨b,7,none⟩=some (j i.V4)/\(∀f,a.frozen? ⟨b,f,none⟩=false):=by
 obtain⟨g,k,l,d,h⟩:=e;exact⟨d.c2,d.c3,d.c4,d.c5,d.W4,d.W5,d.Wb⟩
theorem b8.put {h:D}{a:Nat}{i:U}{g:Nat}(l:b8 h a i g)(e b r f d c:Int):b8 ((((((h.setCell ⟨a,2,none⟩ (j e)).setCell ⟨a,3,none⟩ (j b)).setCell ⟨a,4,none⟩ (j r)).setCell ⟨a,5,none⟩ (j f)).setCell ⟨a,6,none⟩ (j d)).setCell ⟨a,7,none⟩ (j c)) a ⟨e,b,r,f,d,c⟩ g:=by
 obtain⟨k,o,p,m,n⟩:=l;exact⟨k,o,p,m.put e b r f d c,n⟩
def A0 (b c:Nat)(d a:D):Prop:=Below b d a/\∃i,b8 a b i (c+1)/\i.rd<=9223372036854775807/\i.V1<=9223372036854775807
def xB {f e:Nat}{a b:D}{i:U}(d:b8 a f i e)(g:i.rd<=9223372036854775807)(h:i.V1<=9223372036854775807)(c:Below a.heap.size a b):A0 f e a b:=
 ⟨c.mono (gn d.lt),i,(d.below c).mono (by omega),g,h⟩
theorem Da :∀(b:List (List L)) (a:List aC),(u.readAll a b).1.length<=a.length+b.length
 |[],a=>by simp[u.readAll]
 |c::b,a=>by
  simp only[u.readAll]
  split
  . have:=Da b (a++[(u.cm (u.tok c.length c) a).2])
    simp at this|-;omega
  . simp
def SC (b:Int)(a:Nat):(u.dT b a).length=a:=by
 unfold u.dT;rw[strOfNums_data,gT,kR]
theorem Cq (d:List aC):∀(a:List aC) (c:Nat) (b:List L),Tidy a->(u.lay d a c b).1.length<=b.length+4*a.length
 |[],c,b,_=>by simp[u.lay]
 |e::a,c,b,f=>by
  simp only[u.lay]
  have j:=f e (by simp)
  have g:Tidy a:=fun i h=>f i (by simp[h])
  split
  . simp
  . split
    . have:=Cq d a (c+1) (b++u.dT (u.cQ (u.eA d e b.length)).1 e.i.V4.toNat) g
      rw[mQ,SC]at this
      simp only[c9]
      omega
    . simp
def Pk (a:List L):(u.g6 a).1.length<=4096:=by
 unfold u.g6;split
 . simp
 . split
   . simp
   . next e=>
     split
     . have c:=Cq (u.readAll [] (u.bP [] a)).1 (u.readAll [] (u.bP [] a)).1 0 [] (xe _ _ (by intro f d;cases d));have b:=Da (u.bP [] a) [];rw[te]at b;simp at c b;omega
     . simp
def N7 (b:Ending):Prop:=∃a:K,a.size<=4096/\b=.returned (.tuple #[.string a,.bool true])
def Cm (a:K)(c:D):
 Calls prog 44 #[.string a] c fun d m=>N7 d/\Below c.heap.size c m:=by
 have hd:=Oc a c;have f:=fun W=>aaU a W;have g:=Pk a.data.toList;obtain⟨o,i⟩:=y (u.g6 a.data.toList);rw[<-i]at hd f g;obtain⟨k,q,r⟩:=o;obtain⟨h,e⟩:=y (⟨k.toArray⟩:K);have n:Hid (h.size<=4096):=by rw[e];exact l (by show k.toArray.size<=4096;simpa using g)
 have b:=l hd;have HR:=l f;unfold u.aG at b HR;simp only at b HR;rw[<-e]at b HR;clear hd f i e g;go_enter func44,ntmps44;go_wp2_with fail;refine b.out.mono ?_;rintro d s ⟨rfl,j⟩;go_wp2_with fail;refine(HR.out _).mono ?_;rintro d t ⟨rfl,p⟩;go_wp2_with fail;go_ret2;exact⟨⟨h,n.out,rfl⟩,j.trans (p.mono j.size)⟩
def Sp (b r:Nat)(ac:r<1073741824)(P:bA)(w:cw P)(a:D)(ad:Hid (c0 a))(i:U)(s:Hid (b8 a b i r))(T:i.rd<=9223372036854775807)(V:i.V1<=9223372036854775807):
 Calls prog 27 #[I b,P.v] a fun p t=>p=.returned (.bool true)/\A0 b r a t:=by
 have g:Hid (∀n,Below a.heap.size a (a.alloc n)):=rM;have an:Hid (∀n,c0 (a.alloc n)):=fun n=>ad.out.more (g.out n);have u:=l w;obtain⟨f,h,e,k,v⟩:=P;have X:h<=9223372036854775807:=w.YH;have c:e<=9223372036854775807:=w.YI;have Z:k<=9223372036854775807:=w.c1;have d:=l (cZ T (cZ V (cZ X (cZ c Z))));obtain⟨ae,af,ag,ah,ai,aj,ak⟩:=s.out.c;have am:=s.out.lt;clear w ad T V X c Z;by_cases C:f=17
 . subst C;unfold bA.v;simp only;clear ae af ag ah ai aj ak;go_enter func27,ntmps27;go_wp2_with fail;refine(Si e _).mono ?_;exact M4
 have aw:(f==17)=false:=by simp[C]
 by_cases E:f=18
 . subst E;unfold bA.v;simp only;have O:=s.out.put h e k 0 0 0;have B:=l (O.W3 ((Kept.refl _ _).alloc (bA.YX ⟨18,h,e,k,v⟩)));have Y:=((((((aq b a).setCell (p:=⟨b,2,none⟩) F (j h)).setCell (p:=⟨b,3,none⟩) F (j e)).setCell (p:=⟨b,4,none⟩) F (j k)).setCell (p:=⟨b,5,none⟩) F (j 0)).setCell (p:=⟨b,6,none⟩) F (j 0)).setCell (p:=⟨b,7,none⟩) F (j 0);have A:=l (Y.alloc (gn O.lt) (bA.YX ⟨18,h,e,k,v⟩));unfold bA.YX at B A;simp only at B A;clear O Y;go_enter func27,ntmps27;go_wp2_with fail;go_ret;refine⟨rfl,?_,⟨h,e,k,0,0,0⟩,?_,d.out.2.2.2.1,d.out.2.2.2.2⟩
   . with_reducible exact A.out
   . exact b8.mono (by with_reducible exact B.out) m
 have ax:(f==18)=false:=by simp[E]
 by_cases G:f=19
 . subst G;unfold bA.v;simp only;have ab:=fun W=>Sn ⟨i.op,i.rd,i.V1,h,e,k⟩ d.out.1 d.out.2.1 d.out.2.2.1 W;have S:=l ab;unfold aW at S;clear ab;go_enter func27,ntmps27;go_wp2_with fail;refine(S.out _).mono ?_;rintro p o ⟨rfl,c⟩;go_wp2_with fail;go_ret;exact⟨rfl,xB s.out d.out.1 d.out.2.1 (((g.out _).alloc (g.out _).size _).trans (c.mono ((g.out _).alloc (g.out _).size _).size))⟩
 have ay:(f==19)=false:=by simp[G]
 clear ae af ag ah ai aj ak;by_cases J:f=21
 . subst J;unfold bA.v;simp only;go_enter func27,ntmps27;go_wp2_with fail;refine(Sx e _ (l (an.out _))).mono ?_;exact M4
 have aA:(f==21)=false:=by simp[J]
 by_cases H:f=20
 . subst H;unfold bA.v;simp only;go_enter func27,ntmps27;go_wp2_with fail;refine(Cm v _).mono ?_;rintro p o ⟨⟨q,x,rfl⟩,c⟩;have d0:al o a.heap.size 0 (j 20):=ig;have y:=l ((g.out _).trans (c.mono (g.out _).size));clear c x;go_wp2_with fail;go_ret;exact⟨rfl,xB s.out d.out.1 d.out.2.1 y.out⟩
 have az:(f==20)=false:=by simp[H]
 by_cases L:f=22
 . subst L;have R:Hid (∀(q:K) (W:D),q.size<=4096->b8 W b i r->Calls prog 45 #[I b,.agg #[j 2,j h,j e,j k,.string q]] W fun p t=>p=.returned (.bool true)/\b8 t b i (r+1)/\Below b W t):=fun q W av ao=>Cn b i r ac ⟨2,h,e,k,q⟩ ⟨u.out.a0,u.out.YH,u.out.YY,u.out.YI,u.out.V8,u.out.c1,by show q.size<=_;omega⟩ W (l ao);unfold bA.v;simp only;go_enter func27,ntmps27;go_wp2_with fail;refine(Cm v _).mono ?_;rintro p o ⟨⟨q,x,rfl⟩,c⟩;have d0:al o a.heap.size 0 (j 22):=ig;have d1:al o a.heap.size 1 (j h):=ig;have d2:al o a.heap.size 2 (j e):=ig;have d3:al o a.heap.size 3 (j k):=ig;have d4:al o a.heap.size 4 (.string v):=ig;have ar:o.frozen? ⟨a.heap.size,0,none⟩=false:=(c.frozen F).trans F;have au:o.frozen? ⟨a.heap.size,4,none⟩=false:=(c.frozen F).trans F;have y:=l ((g.out _).trans (c.mono (g.out _).size));have Q:Hid (Below a.heap.size a ((o.setCell ⟨a.heap.size,0,none⟩ (j 2)).setCell ⟨a.heap.size,4,none⟩ (.string q))):=l ((y.out.setCell F _).setCell F _);have aa:=R.out q _ x (s.out.below Q.out);have z:=l aa;clear c aa R x;go_wp2_with fail;refine z.out.mono ?_;rintro p ap ⟨rfl,N,M⟩;go_wp2_with fail;go_ret;exact⟨rfl,(Q.out.mono (gn am)).trans M,i,N,d.out.1,d.out.2.1⟩
 have aC:(f==22)=false:=by simp[L]
 have z:Hid (∀n,Calls prog 45 #[I b,.agg #[j f,j h,j e,j k,.string v]] (a.alloc n) fun p t=>p=.returned (.bool true)/\b8 t b i (r+1)/\Below b (a.alloc n) t):=fun n=>Cn b i r ac ⟨f,h,e,k,v⟩ u.out (a.alloc n) (l (s.out.below (g.out n)));unfold bA.v;simp only;clear C E G H J L;go_enter func27,ntmps27;go_wp2_with fail;refine(z.out _).mono ?_;rintro p ap ⟨rfl,N,M⟩;go_wp2_with fail;go_ret;exact⟨rfl,((g.out _).mono (gn am)).trans M,i,N,d.out.1,d.out.2.1⟩
structure pK (c:D)(a b:Nat)(d:bA):Prop where
 V8:c.cell? ⟨a,b,none⟩=some (j d.k)
 c1:c.cell? ⟨a,b+1,none⟩=some (j d.a)
 c2:c.cell? ⟨a,b+2,none⟩=some (j d.b)
 c3:c.cell? ⟨a,b+3,none⟩=some (j d.c)
 c4:c.cell? ⟨a,b+4,none⟩=some (.string d.s)
def fd (e:D)(p:Option Addr)(a:List bA):Prop:=a=[]\/∃b d,p=some ⟨b,d,none⟩/\b<e.heap.size/\∀c (f:c<a.length),pK e b (d+c*5) a[c]
def pK.below {h f:D}{a b g:Nat}{i:bA}(c:pK h a b i)(d:Below g h f)(e:a<g):pK f a b i:=
 ⟨(d.cell (p:=⟨a,b,none⟩) e).trans c.V8,(d.cell (p:=⟨a,b+1,none⟩) e).trans c.c1,(d.cell (p:=⟨a,b+2,none⟩) e).trans c.c2,(d.cell (p:=⟨a,b+3,none⟩) e).trans c.c3,(d.cell (p:=⟨a,b+4,none⟩) e).trans c.c4⟩
theorem fd.below {b c:D}{p:Option Addr}{d:List bA}(a:fd b p d)(e:Below b.heap.size b c):fd c p d:=by
 rcases a with a|⟨g,j,rfl,f,a⟩
 . exact .inl a
 . exact .inr ⟨g,j,rfl,aR f e.size,fun i h=>(a i h).below e f⟩
def Ob (b:Nat)(a:Ending):Prop:=∃r,a=.returned (.bool r)/\(r=true->b<=1073741824)
def Cp (p:Option Addr)(n:Nat)(a:List bA)(x:a.length<=1125899906842624)(r:Hid (∀u∈a,cw u))(f:D)(t:Hid (fd f p a)):
 Calls prog 16 #[.slice p a.length n] f fun o l=>Ob a.length o/\l=f:=by
 by_cases z:1073741824<a.length
 . have h:decide (1073741824< (a.length:Int))=true:=M;go_enter func16,ntmps16;go_wp2;go_ret;exact⟨⟨_,rfl,by simp⟩,rfl⟩
 . have h:decide (1073741824< (a.length:Int))=false:=M;go_enter func16,ntmps16;go_wp2;go_loop [3,4] (fun m e=>∃b i:Nat,b<=1073741824/\i<=a.length/\m=j b/\e=j i) (fun _ e=>a.length- (intOf e).toNat);case atStart=>exact⟨a.length,0,by omega,by omega,rfl,rfl⟩
   case round=>
    obtain⟨b,i,C,B,rfl,rfl⟩:=hrel;by_cases c:i<a.length
    . rcases t.out with k|⟨w,F,rfl,A,g⟩
      . exact lV
      have c4:=(g i c).c4;have s:=(r.out a[i] (gf c)).s1;obtain⟨d,hS⟩:=y (a[i].s);rw[<-hS]at c4 s;clear hS g;by_cases E:1073741824<b+d.size
      . have q:decide (1073741824< (b:Int)+(d.size:Int))=true:=M;exact M5
      . have q:decide (1073741824< (b:Int)+(d.size:Int))=false:=M;go_wp2;go_round;case rel=>exact⟨b+d.size,i+1,by omega,by omega,by go_num,by go_num⟩
        case measure=>exact a5
    . have v:decide ((i:Int)< (a.length:Int))=false:=M;exact M5
def qO :Obj:=.cells #[.slice none 0 0,.slice none 0 0,j 0,j 0,j 0,j 0,j 0,j 0] 55
def b8.new (c:D):b8 (c.alloc qO) c.heap.size ⟨0,0,0,0,0,0⟩ 0:=by
 refine⟨[],.slice none 0 0,.slice none 0 0,?_,by simp⟩;unfold qO;refine⟨?_,?_,?_,?_,?_,?_,?_,?_,?_,?_,World.ownsRow_nil _ _ _ _,World.ownsRow_nil _ _ _ _,?_,?_,?_,?_,?_,?_⟩;case refine_11=>intro b a;simp at a
 case refine_12=>intro b a;simp at a
 case refine_13=>intro b a;simp at a
 case refine_14=>intro b a;simp at a
 case refine_15=>intro e a;simp[Value.ownBlock]at a
 case refine_16=>intro b d a;simp at a
 all_goals simp
def g4 :N:=kU (hN 64) 0 ⟨#[147,0,176,255]⟩
def Bd :dN (hN 64).b 0 ⟨#[147,0,176,255]⟩=0:=by kernel_rfl
def OH :(cL g4).1.1=0:=by kernel_rfl
def OI :(cL g4).2.x.getD 1 0=4294967291:=by kernel_rfl
def Sh (a:D):aa 17 #[] (.bool true) a:=by
 have h:=l (Fb 64 R a);have i:=CG 64 R;have c:=l (fun W (d:E W (a.heap.size+1) a.heap.size (hN 64))=>Ez (a.heap.size+1) a.heap.size (hN 64) i 0 ⟨#[147,0,176,255]⟩ W d);have r:nS (hN 64) 0 ⟨#[147,0,176,255]⟩=g4:=by unfold nS;rw[B Bd];rfl
 have t:aj g4:=Cz i 0 _;have b:=l (fun W (d:E W (a.heap.size+1) a.heap.size g4)=>x1 (a.heap.size+1) a.heap.size g4 t W (l d));have f:=l (fun W (d:E W (a.heap.size+1) a.heap.size (cL g4).2)=>EA (a.heap.size+1) a.heap.size (cL g4).2 1 W d);have s:jj (cL g4).2.x 1=(4294967291,0):=by
  unfold jj;rw[B (by decide)];show((((cL g4).2.x.getD 1 0:Nat):Int),(0:Int))=_;rw[OI];rfl
 simp only[r,Bd]at c;unfold eE at b;simp only[OH]at b;simp only[s]at f;generalize (cL g4).2=H at b f;generalize (cL g4).1.2=q at b;generalize g4=I at c b;generalize hN 64=G at h c;clear r s i t;go_enter func17,ntmps17;go_wp2_with fail;refine h.out.mono ?_;rintro m A ⟨rfl,w,u⟩;have n:=l (c.out A w);have g:=l (gy u F (aB _));clear h c w u;go_wp2_with fail;refine n.out.mono ?_;rintro m C ⟨rfl,x,v⟩;have p:=l (b.out C x);have e:=l (g.out.trans (gy v F g.out.size));clear n b x v g;go_wp2_with fail;refine p.out.mono ?_;rintro m w3 ⟨rfl,y,k⟩;have o:=l (f.out _ (y.alloc (.cells #[j 0,j q] 46)));have z:=l ((e.out.trans (gy k F e.out.size)).alloc (fE e.out.size k.size) (.cells #[j 0,j q] 46));clear p f y k e;go_wp2_with fail;refine o.out.mono ?_;rintro m J ⟨rfl,rfl⟩;clear o;go_wp2_with fail;go_ret;exact⟨rfl,z.out⟩
def vT (c:D)(a b:Nat):Prop:=∃i,b8 c a i b/\i.rd<=9223372036854775807/\i.V1<=9223372036854775807
def Cl (p:Option Addr)(G:Nat)(b:List bA)(Q:b.length<=1073741824)(H:Hid (∀h∈b,cw h))(held:Int)(a:D)(J:Hid (fd a p b))(I:Hid (c0 a)):
 aa 18 #[.slice p b.length G,j held] (j (-1)) a:=by
 have n:Hid (Below a.heap.size a (a.alloc qO)):=lT;have o:Hid (vT (a.alloc qO) a.heap.size 0):=⟨_,b8.new a,by show(0:Int)<=_;decide,by show(0:Int)<=_;decide⟩;unfold qO at n o;go_enter func18,ntmps18;go_wp2_with fail;go_loopw [6] (fun q wr=>∃i:Nat,i<=b.length/\q=j i/\Hid (Below a.heap.size a wr)/\Hid (vT wr a.heap.size i)) (fun q _=>b.length- (intOf q).toNat);case atStart=>exact⟨0,by omega,rfl,n,o⟩
 case round=>
  obtain⟨d,S,rfl,f,v⟩:=hrel;clear n o;by_cases c:d<b.length
  . have A:=l (J.out.below f.out);have B:=l (I.out.more f.out);rcases A.out with k|⟨O,T,rfl,R,e⟩
    . exact lV
    have e:=e d c;have s:=H.out b[d] (gf c);obtain⟨h,C⟩:=y (b[d]);rw[<-C]at e s;clear C;obtain⟨K,w,x,z⟩:=v.out;have g:=Sp a.heap.size d m h s wr B K (l w) x z;obtain⟨X,U,V,W,Y⟩:=h;unfold bA.v at g;simp only at g;have t:=l g;obtain⟨u,c1,c2,c3,c4⟩:=id e;simp only at u c1 c2 c3 c4;clear g e s w x z v A B;go_wp2_with fail;refine t.out.mono ?_;rintro P L ⟨rfl,r⟩;have E:=l (f.out.trans r.1);have F:Hid (vT L a.heap.size (d+1)):=r.2;clear u c1 c2 c3 c4 t r;go_wp2_with fail;go_roundw;case rel=>exact⟨d+1,by omega,by go_num,E,F⟩
    case measure=>exact a5
  . have N:decide ((d:Int)< (b.length:Int))=false:=M;go_wp2_with fail;go_ret;exact⟨rfl,f.out⟩
def fd.Z0 {a b:D}(c:c0 a)(d:Below a.heap.size a b):c0 b:=c.more d
def sG (p:Option Addr)(c:Nat)(a:List bA)(o:a.length<=1125899906842624)(f:Hid (∀u∈a,cw u))(held:Int)(s:held=131072\/held=524288\/held=5242880\/held=2097152)(b:D)(h:Hid (fd b p a))(t:Hid (c0 b)):
 aa 14 #[.slice p a.length c,j held] (.bool true) b:=by
 have i:=l (Cp p c a o f b h);have e:=l (fun(n:a.length<=1073741824)=>Cl p c a n f held b h t);rcases s with rfl|rfl|rfl|rfl;all_goals
  go_enter func14,ntmps14;go_wp2_with fail;refine i.out.mono ?_;rintro m v ⟨⟨r,rfl,d⟩,rfl⟩;have g:=l d;clear d;cases r
  . exact AN
  . have k:=l (e.out (g.out rfl));clear e g;go_wp2_with fail;refine k.out.mono ?_;rintro m w ⟨rfl,q⟩;go_wp2_with fail;go_ret;exact⟨rfl,q⟩
def sH (p:Option Addr)(c:Nat)(a:List bA)(t:a.length<=1125899906842624)(i:Hid (∀z∈a,cw z))(held:Int)(v:held=518\/held=538\/held=738\/held=64002\/held=8388607)(b:D)(m:Hid (fd b p a))(x:Hid (c0 b)):
 aa 14 #[.slice p a.length c,j held] (.bool true) b:=by
 have o:=l (Cp p c a t i b m);have f:=l (fun W (s:a.length<=1073741824) (h:Below b.heap.size b W)=>Cl p c a s i held W (l (m.out.below h)) (l (x.out.more h)));have n:=l (Sh b);rcases v with rfl|rfl|rfl|rfl|rfl;all_goals
  go_enter func14,ntmps14;go_wp2_with fail;refine o.out.mono ?_;rintro g A ⟨⟨r,rfl,e⟩,rfl⟩;have k:=l e;clear e;cases r
  . exact AN
  . have w:=l (k.out rfl);clear k;go_wp2_with fail;refine n.out.mono ?_;rintro g y ⟨rfl,d⟩;have q:=l (f.out y w.out d);clear f;go_wp2_with fail;refine q.out.mono ?_;rintro g w3 ⟨rfl,u⟩;go_wp2_with fail;go_ret;exact⟨rfl,d.trans (u.mono d.size)⟩
end
def RZ (p:Option Addr)(e:Nat)(c:List bA)(f:c.length<=1125899906842624)(g:Hid (∀j∈c,cw j))(d:D)(i:Hid (fd d p c))(h:Hid (c0 d)):
 aa 3 #[.slice p c.length e] (.bool true) d:=by
 have b:=l (sG p e c f g 131072 (.inl rfl) d i h);go_enter func3,ntmps3;exact lW
def R1 (p:Option Addr)(e:Nat)(c:List bA)(f:c.length<=1125899906842624)(g:Hid (∀j∈c,cw j))(d:D)(i:Hid (fd d p c))(h:Hid (c0 d)):
 aa 4 #[.slice p c.length e] (.bool true) d:=by
 have b:=l (sG p e c f g 524288 (.inr (.inl rfl)) d i h);go_enter func4,ntmps4;exact lW
def R2 (p:Option Addr)(e:Nat)(c:List bA)(f:c.length<=1125899906842624)(g:Hid (∀j∈c,cw j))(d:D)(i:Hid (fd d p c))(h:Hid (c0 d)):
 aa 5 #[.slice p c.length e] (.bool true) d:=by
 have b:=l (sG p e c f g 5242880 (.inr (.inr (.inl rfl))) d i h);go_enter func5,ntmps5;exact lW
def R6 (p:Option Addr)(e:Nat)(c:List bA)(f:c.length<=1125899906842624)(g:Hid (∀j∈c,cw j))(d:D)(i:Hid (fd d p c))(h:Hid (c0 d)):
 aa 6 #[.slice p c.length e] (.bool true) d:=by
 have b:=l (sG p e c f g 2097152 (.inr (.inr (.inr rfl))) d i h);go_enter func6,ntmps6;exact lW
def R4 (p:Option Addr)(e:Nat)(c:List bA)(f:c.length<=1125899906842624)(g:Hid (∀j∈c,cw j))(d:D)(i:Hid (fd d p c))(h:Hid (c0 d)):
 aa 7 #[.slice p c.length e] (.bool true) d:=by
 have b:=l (sH p e c f g 518 (.inl rfl) d i h);go_enter func7,ntmps7;exact lW
def R5 (p:Option Addr)(e:Nat)(c:List bA)(f:c.length<=1125899906842624)(g:Hid (∀j∈c,cw j))(d:D)(i:Hid (fd d p c))(h:Hid (c0 d)):
 aa 8 #[.slice p c.length e] (.bool true) d:=by
 have b:=l (sH p e c f g 538 (.inr (.inl rfl)) d i h);go_enter func8,ntmps8;exact lW
def R0 (p:Option Addr)(e:Nat)(c:List bA)(f:c.length<=1125899906842624)(g:Hid (∀j∈c,cw j))(d:D)(i:Hid (fd d p c))(h:Hid (c0 d)):
 aa 9 #[.slice p c.length e] (.bool true) d:=by
 have b:=l (sH p e c f g 738 (.inr (.inr (.inl rfl))) d i h);go_enter func9,ntmps9;exact lW
def R3 (p:Option Addr)(e:Nat)(c:List bA)(f:c.length<=1125899906842624)(g:Hid (∀j∈c,cw j))(d:D)(i:Hid (fd d p c))(h:Hid (c0 d)):
 aa 10 #[.slice p c.length e] (.bool true) d:=by
 have b:=l (sH p e c f g 64002 (.inr (.inr (.inr (.inl rfl)))) d i h);go_enter func10,ntmps10;exact lW
end Go.Proofs.YtmlgonbhoknoiaaGreatDoor
