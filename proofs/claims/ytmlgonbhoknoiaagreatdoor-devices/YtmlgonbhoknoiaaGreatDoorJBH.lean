import Derived.Test.YtmlgonbhoknoiaaGreatDoorJBF
import Derived.Test.YtmlgonbhoknoiaaGreatDoorJBG
set_option maxHeartbeats 8000000
set_option maxRecDepth 100000
set_option linter.all false
namespace Go.Proofs.YtmlgonbhoknoiaaGreatDoor
open Go.RowKit Go.Proofs.Tryz
section
attribute [local go_sem ↓] Go.wp_at_zero Go.wp_at_succ
def jb :Nat->Nat->Nat->Nat
 |0,_,r=>r
 |b+1,a,r=>jb b (a+1) (if r<=a/\a<r+4 then 0 else r)
def p8 (a:ai)(b:Nat)(c:K):ai:={a with b:={a.b with o:=laidB a.b.o b c.data.toList},res:=jb c.size (2147483648+b) a.res}
def aes (h g m p i:Nat)(a:ai)(n:aT a.b)(d:Int)(c:K)(o:c.size<=1125899906842624)(b:¬dN a.b d c=0)(f:D)(e:Hid (V f h g m p i a)):
 O 159 #[I h,j d,.string c] (j (dN a.b d c)) f:=by
 have q:=e.out.V8;have k:=l (acZ g i a.b n d c o b f (l e.out.Wt));have r:(dN a.b d c !=0)=true:=g0;generalize dN a.b d c=s at *;clear b e;go_enter func159,ntmps159;go_wp2_with fail;refine k.out.mono ?_;exact ex
def aer (f q x H g:Nat)(c:ai)(s:ey c)(b:Nat)(a:K)(ab:a.size<=65536)(S:b+a.size<=c.b.o.length)(k:D)(u:Hid (V k f q x H g c)):
 Calls prog 159 #[I f,j b,.string a] k fun Q N=>Q=.returned (j 0)/\V N f q x H g (p8 c b a)/\Kept [f,g] k N:=by
 have af:=s.b.o;have U:=s.res;have aa:=u.out.V8;have P:=l (acY q g c.b s.b b a ab S k (l u.out.Wt));obtain⟨h,t⟩:=y ({c with b:={c.b with o:=laidB c.b.o b a.data.toList}}:ai);have R:p8 c b a={h with res:=jb a.size (2147483648+b) h.res}:=by rw[t];rfl
 have ag:h.res<17184063488:=by rw[t];exact U
 rw[R];obtain⟨d,A⟩:=y (jb a.size (2147483648+b) h.res);rw[<-A];have O:=l A;have ar:b<=65536:=J;obtain⟨au,aq⟩:=y (a.size);clear R A s U S af;go_enter func159,ntmps159;go_wp2_with fail;refine P.out.mono ?_;rintro Q ah ⟨rfl,T,C⟩;have G:=l (u.out.Xy (C.mono F) T);rw[<-t]at G;have W:Hid (Kept [f,g] k ah):=l (C.mono F);clear P T C aa u t;go_wp2_with fail;go_loopw [8] (fun w wr=>∃(i r:Nat),i<=a.size/\r<17184063488/\w=j i/\Hid (V wr f q x H g {h with res:=r})/\Hid (Kept [f,g] k wr)/\Hid (d=jb (a.size-i) (2147483648+b+i) r)) (fun w _=>a.size- (intOf w).toNat);case atStart=>exact⟨0,h.res,by omega,ag,rfl,G,W,O⟩
 case round=>
  obtain⟨i,r,ao,aj,rfl,o,L,e⟩:=hrel;clear O G W;by_cases ap:i<a.size
  . have X:decide ((i:Int)< (a.size:Int))=true:=M;have p:Hid (d=jb (a.size- (i+1)) (2147483648+b+(i+1)) (if r<=2147483648+b+i/\2147483648+b+i<r+4 then 0 else r)):=by
     show d=_;rw[e.out,show a.size-i=(a.size- (i+1))+1 by omega];rfl
    clear e;have d5:=o.out.c5;have an:=o.out.Wb;have ak:IntKind.i64.wrap (2147483648+(b:Int))=2147483648+(b:Int):=lN;have al:IntKind.i64.wrap (2147483648+(b:Int)+(i:Int))=2147483648+(b:Int)+(i:Int):=lN;have am:IntKind.i64.wrap ((r:Int)+4)=(r:Int)+4:=lN;by_cases n:r<=2147483648+b+i
    . have Y:decide ((r:Int)<=2147483648+(b:Int)+(i:Int))=true:=M;by_cases v:2147483648+b+i<r+4
      . have Z:decide (2147483648+(b:Int)+(i:Int)< (r:Int)+4)=true:=M;rw[B ⟨n,v⟩]at p;have ad:=l (o.out.YA 0);have ae:=l (L.out.setCell (p:=⟨f,5,none⟩) (.inl F) (j 0));clear n v;go_wp2_with fail;go_roundw;case rel=>exact⟨i+1,0,by omega,by omega,by go_num,ad,ae,p⟩
        case measure=>exact a5
      . have Z:decide (2147483648+(b:Int)+(i:Int)< (r:Int)+4)=false:=M;rw[z (fun E=>v E.2)]at p;clear n v;exact LK
    . have Y:decide ((r:Int)<=2147483648+(b:Int)+(i:Int))=false:=M;rw[z (fun E=>n E.1)]at p;clear n;exact LK
  . have X:decide ((i:Int)< (a.size:Int))=false:=M;have ac:Hid (d=r):=JE;clear e;go_wp2_with fail;go_ret;exact⟨rfl,by rw[ac.out];exact o.out,L.out⟩
def eC :List L->P->P
 |[],a=>a
 |b::c,a=>eC c (ed a (b.toNat:Int))
def Bp (a:P)(b:Int):sd a (ed a b):=by
 unfold ed;split<;>exact⟨rfl,rfl,rfl,rfl,rfl,rfl⟩
def v8 (a:P)(b:Int)(c:a.rx.size<=4):a.rx.size<=(ed a b).rx.size/\(ed a b).rx.size<=4:=by
 unfold ed;split
 . dsimp only;rw[fm,oa,kR];omega
 . exact⟨aB _,c⟩
theorem sk :∀(e:List L) (a:P),a.rx.size<=4->a.rx.size<=(eC e a).rx.size/\(eC e a).rx.size<=4
 |[],a,b=>⟨aB _,b⟩
 |f::g,a,b=>by
  have c:=v8 a (f.toNat:Int) b
  have d:=sk g _ c.2
  exact⟨fE c.1 d.1,d.2⟩
def Pf {a:P}(b:aT a)(c:Int):aT (ed a c):=by
 have h:=v8 a c b.rx;have d:=Bp a c;have e:(ed a c).enable=a.enable:=y9;have f:(ed a c).Wr=a.Wr:=y9;have g:(ed a c).Wc=a.Wc:=y9;exact⟨by rw[d.o];exact b.o,by rw[d.Wj];exact b.Wj,by rw[d.time];exact b.time,by rw[d.Wh];exact b.Wh,by rw[d.cmp];exact b.cmp,by rw[d.Wv];exact b.Wv,by rw[e];exact b.enable,by rw[f];exact b.Wr,h.2,by rw[g];exact b.Wc⟩
theorem Bo :∀(c:List L) {b:P},aT b->aT (eC c b)
 |[],_,a=>a
 |_::d,_,a=>Bo d (Pf a _)
def afV (b:Nat)(a:K)(d:64<a.size)(c:D):
 O 75 #[I b,.string a] (.tuple #[j 0,j 1]) c:=by
 have e:decide (64< (a.size:Int))=true:=M;go_enter func75,ntmps75;exact ik
def afU (d h:Nat)(b:N)(t:b.b.rx.size<=4)(a:K)(Y:a.size<=64)(o)(u:Hid (E o d h b)):
 an 75 #[I d,.string a] (.tuple #[j (((eC a.data.toList b.b).rx.size:Int)-b.b.rx.size),j 0]) [d] d h (b.V7 (eC a.data.toList b.b)) o:=by
 have ae:decide (64< (a.size:Int))=false:=M;have J:=u.out.XK;have O:=(sk a.data.toList b.b t).2;obtain⟨g,r⟩:=y (eC a.data.toList b.b);rw[<-r]at O|-;have x:Hid (g=eC (a.data.toList.drop 0) b.b):=l r;clear r;obtain⟨X,n⟩:=y (b.b.rx.size);rw[<-n]at t|-;have U:(b.b.rx.size:Int)=X:=by rw[n]
 have H:=l n;clear n;go_enter func75,ntmps75;go_wp2_with fail;go_loopw [7] (fun q wr=>∃(i:Nat) (c:P),i<=a.size/\q=j i/\c.rx.size<=4/\Hid (E wr d h (b.V7 c))/\Hid (Kept [d] o wr)/\Hid (g=eC (a.data.toList.drop i) c)) (fun q _=>a.size- (intOf q).toNat);case atStart=>exact⟨0,b.b,by omega,rfl,by rw[<-H.out];exact t,u,l (Kept.refl _ _),x⟩
 case round=>
  obtain⟨i,c,ab,rfl,z,f,C,k⟩:=hrel;clear x J u U;have L:=f.out.XK;simp only[N.V7]at L;by_cases S:i<a.size
  . have V:decide ((i:Int)< (a.size:Int))=true:=M;have B:Hid (g=eC (a.data.toList.drop (i+1)) (ed c (a[i].toNat:Int))):=by
     show g=_;rw[k.out,eF a i S];rfl
    clear k;have G:=l (Bp c (a[i].toNat:Int));have D:=(v8 c (a[i].toNat:Int) z).2;have p:=fun W=>l (ago c z (a[i].toNat:Int) W);have d66:=f.out.XR;have d67:=f.out.XS;have d68:=f.out.XT;have d70:=f.out.XL;simp only[N.V7]at d66 d67 d68 d70;obtain⟨w,A⟩:=y (ed c (a[i].toNat:Int));simp only[<-A]at p G D B;unfold bx at p;clear A;have Z:a[i].toNat<256:=a[i].toNat_lt;have ac:=fk (a[i].toNat:Int) m;go_upto_region 7 with fail;go_region_with(first|(go_at_call 126;refine(p _).out.mono ?_;rintro ad v ⟨rfl,s⟩;have e:E v d h (b.V7 c):=E.kept Ge s;have f66:=e.XR;have f67:=e.XS;have f68:=e.XT;have f69:=e.XK;have f70:=e.XL;have aa:=e.Wb));all_goals
     have e:E v d h (b.V7 c):=E.kept Ge s;have T:=l (e.setPort w G.out);have R:Kept [d] o v:=(C.out.trans (Kept.mono (Kept.trans (by first|exact(Kept.refl [] _).drew|exact Kept.refl [] _) s) F));go_wp2_with fail;go_roundw;case rel=>
      refine⟨i+1,w,by omega,by go_num,D,T,?_,B⟩;exact l (((((R.Xb _ _).Xb _ _).Xb _ _).Xb _ _).Xb _ _)
     case measure=>exact a5
  . have V:decide ((i:Int)< (a.size:Int))=false:=M;have Q:g=c:=by
     rw[k.out,eQ (by rw[dQ];show a.size<=i;omega)];rfl
    clear k;subst Q;go_wp2_with fail;go_ret2;exact⟨rfl,f.out,C.out⟩
end
def BZ (a i:Nat):(List.replicate a (0:Nat)).getD i 0=0:=by
 rw[q7,List.getElem?_replicate];split<;>rfl
def PC (a:P)(b:a.o.length<=65536):aT (pW a):=⟨b,by show 0<2;decide,by show 0<4294967296;decide,by show 0<4294967296;decide,by show 4294967295<4294967296;decide,by show 4294967295<4294967296;decide,by show 0<8;decide,by show 0<256;decide,by show 0<=4;decide,by show 0<=8;decide⟩
theorem Ds (a:N)(b:a.b.o.length<=65536):aj (k3 a):=by
 refine⟨⟨PC a.b b,rfl,?_,by show 2147483648<4294967296;decide,.inr (.inr rfl),?_,?_,?_,?_,?_,?_,?_,?_,?_,?_,?_,?_,?_,?_,?_,?_,?_,?_,?_,?_,?_,?_,?_,?_,?_⟩,?_,?_,?_,?_,?_,?_,?_,(by show 2147483648%2=0;decide),rfl,rfl,oT 1,oT 1,fun c=>absurd rfl c⟩
 . intro i;show(List.replicate 32 0).getD i 0<_;rw[BZ];decide
 all_goals first
  | (show 0<4294967296;decide)|(show 0<=546;decide)|(show 0<8;decide)|(show 0<17184063488;decide)|(show 0/2048%4≠2;decide)|exact BZ 32 0|(show 0&&&546=0;decide)|(show 0&&&8264106=0;decide)|(show 0&&&2730=0;decide)|(show 0&&&46079=0;decide)|(show 0&&&5=0;decide)
def CG (a:Nat)(b:a<=65536):aj (hN a):=Ds _ (by simpa[kW,pV]using b)
def Cz {a:N}(e:aj a)(c:Nat)(d:K):aj (kU a c d):=by
 unfold kU qK;have b:aj (bZ a (laidB a.b.o c d.data.toList)):=e.o (wO _ _ _);split
 . exact b.XW
 . exact b
def QD {a:N}(b:aj a)(c:List L):aj (a.V7 (eC c a.b)):=b.V7 (Bo c b.ok.b)
def aaN {b:N}(a:aj b)(c:Nat):aj {b with b:=jm b.b c}:=a.V7 (B:=jm b.b c) ⟨a.ok.b.o,a.ok.b.Wj,gc _ (by decide),gc _ (by decide),a.ok.b.cmp,a.ok.b.Wv,a.ok.b.enable,a.ok.b.Wr,a.ok.b.rx,a.ok.b.Wc⟩
def Qk {b:N}(a:aj b):aj {b with b:={b.b with Wc:=⟨#[]⟩}}:=a.V7 (B:={b.b with Wc:=⟨#[]⟩}) ⟨a.ok.b.o,a.ok.b.Wj,a.ok.b.time,a.ok.b.Wh,a.ok.b.cmp,a.ok.b.Wv,a.ok.b.enable,a.ok.b.Wr,a.ok.b.rx,by show 0<=8;decide⟩
def Dn (a:Int):(bY a).toNat<=70/\((bY a).toNat:Int)=bY a:=by
 unfold bY;cases(a==4)<;>cases(a==2)<;>decide
def wE (i:U)(a:D):
 aa 89 #[aW i] (.tuple #[j (fe i).1,j (fe i).2]) a:=by
 refine(QV i (bY i.V4).toNat (Dn _).1 (Dn _).2 a).mono ?_;rintro f e ⟨⟨d,c,rfl⟩,b⟩;refine⟨?_,b⟩;unfold fe;rw[<-c.out];cases d<;>rfl
def Bb (i:U)(h:D):
 aa 185 #[aW i] (.tuple #[j (u.cQ i).1,j (u.cQ i).2]) h:=by
 unfold u.cQ aW;by_cases b:i.V4=0
 . rw[B b];have o:(i.V4==0)=true:=kl;go_enter func185,ntmps185;exact Mo
 rw[z b];have o:(i.V4==0)=false:=kl;by_cases d:i.op=71
 . rw[B d];have p:(i.op==71)=true:=iZ;unfold u.nA;have hd:=fun h=>A4 i.V2 (-2147483648) 4294967295 h;obtain⟨a,e⟩:=y (if i.V2 < -2147483648\/4294967295<i.V2 then(0,7)else(i.V2,(0:Int)));rw[<-e];have f:(if i.V2 < -2147483648\/4294967295<i.V2 then 0 else i.V2)=a.1:=u2;have g:(if i.V2 < -2147483648\/4294967295<i.V2 then(7:Int)else 0)=a.2:=u2;rw[f,g]at hd;have n:=l hd;clear hd e f g b d;exact Mp
 rw[z d];have p:(i.op==71)=false:=iZ;by_cases c:i.op=72
 . rw[B c];have q:(i.op==72)=true:=eT;unfold u.nA;have hd:=fun h=>A4 i.V2 (-32768) 65535 h;obtain⟨a,e⟩:=y (if i.V2 < -32768\/65535<i.V2 then(0,7)else(i.V2,(0:Int)));rw[<-e];have f:(if i.V2 < -32768\/65535<i.V2 then 0 else i.V2)=a.1:=u2;have g:(if i.V2 < -32768\/65535<i.V2 then(7:Int)else 0)=a.2:=u2;rw[f,g]at hd;have n:=l hd;clear hd e f g b d c;exact Mp
 rw[z c];have q:(i.op==72)=false:=eT;have k:=wE i;unfold aW at k;obtain⟨a,e⟩:=y (fe i);rw[<-e]at k|-;have s:=l k;clear k e b d c;by_cases m:a.2=0
 . rw[B m];have r:(a.2 !=0)=false:=by simp[m]
   exact Mr
 . rw[z m];have r:(a.2 !=0)=true:=by simp[m]
   exact Mr
theorem wS (b:Int):∀a,(b4 b a).length=a
 |0=>rfl
 |a+1=>by simp[b4,wS b a]
def wQ {a:List aC}{b:Nat}{c:List L}(d:b<a.length):u.lay a (a.drop b) b c=
 if a[b].Xa≠ []/\u.ca a a[b].Xa=a.length then([],8,b+1)else
 if(u.cQ (u.eA a a[b] c.length)).2=0 then u.lay a (a.drop (b+1)) (b+1) (c++u.dT (u.cQ (u.eA a a[b] c.length)).1 a[b].i.V4.toNat)else([],(u.cQ (u.eA a a[b] c.length)).2,b+1):=by
 rw[js d];rfl
def Sy {a:List aC}{b:Nat}{f:List L}(c:b<a.length)(d:a[b].Xa≠ [])(e:u.ca a a[b].Xa=a.length):u.lay a (a.drop b) b f=([],8,b+1):=by
 rw[wQ c,B ⟨d,e⟩]
def Cr {a:List aC}{b:Nat}{c:List L}(d:b<a.length)(e:¬(a[b].Xa≠ []/\u.ca a a[b].Xa=a.length))(i:U)(f:u.eA a a[b] c.length=i):u.lay a (a.drop b) b c=if(u.cQ i).2=0 then u.lay a (a.drop (b+1)) (b+1) (c++u.dT (u.cQ i).1 a[b].i.V4.toNat)else([],(u.cQ i).2,b+1):=by
 rw[wQ d,z e,f]
def D5 (a:List Int):(strOfNums a).size=a.length:=by
 unfold strOfNums;simp[ByteArray.size]
def Bn (b a:K):(b++a).data.toList=b.data.toList++a.data.toList:=MD
theorem mp :∀(a:List aC) (b:Nat),Tidy a->0<=u.place a b/\u.place a b<=4*a.length
 |[],b,_=>by cases b<;>simp[u.place]
 |d::a,0,_=>by simp[u.place];omega
 |d::a,b+1,c=>by
  have g:=mp a b (fun f e=>c f (rh _ e))
  have:=c d (by simp)
  simp only[u.place,c9];omega
def Oi (p:Option Addr)(ab:Nat)(a:List aC)(av:a.length<=5000)(hd:Hid (Tidy a))(n:D)(aj:Hid (jJ n p a))(ai:Hid (∀an,p=some an->an.block<n.heap.size)):
 aa 125 #[.slice p a.length ab] (.tuple #[u.aG (u.lay a a 0 []).1,j (u.lay a a 0 []).2.1,j (u.lay a a 0 []).2.2]) n:=by
 obtain⟨h,ae⟩:=y (u.lay a a 0 []);rw[<-ae];have HR:Hid (h=u.lay a (a.drop 0) 0 (⟨#[]⟩:K).data.toList):=ae;clear ae;go_enter func125,ntmps125;go_wp2;go_loopw [5,6] (fun aM ak wr=>∃(d:Nat) (e:K),d<=a.length/\e.size<=4*d/\aM=.string e/\ak=j d/\Hid (Below n.heap.size n wr)/\Hid (h=u.lay a (a.drop d) d e.data.toList)) (fun _ ak _=>a.length- (intOf ak).toNat);case atStart=>exact⟨0,⟨#[]⟩,by omega,by decide,rfl,rfl,l (aq _ _),HR⟩
 case round=>
  obtain⟨d,e,aS,aR,rfl,rfl,J,v⟩:=hrel;clear HR;by_cases c:d<a.length
  . have aF:=l (aj.out.below J.out ai.out);rcases aF.out with k|⟨ao,rfl,O⟩
    . exact lV
    have O:=O d c;have aI:=hd.out a[d] (gf c);obtain⟨f,N,aT⟩:∃f:Nat,a[d].i.V4=f/\f<=4:=⟨a[d].i.V4.toNat,by omega,by omega⟩;obtain⟨aJ,ah⟩:=y (a[d]);rw[<-ah]at O N;have t:=l ah;clear aI ah;obtain⟨aL,i,H⟩:=aJ;obtain⟨ap,c1,c2,c3,c4,c5,ar,au⟩:=id O;simp only at ap c1 c2 c3 c4 c5 ar au N;rw[N]at ar;have I:=l N;obtain⟨C,aw⟩:=y (⟨aL.toArray⟩:K);obtain⟨o,af⟩:=y (⟨H.toArray⟩:K);rw[<-aw]at ap;rw[<-af]at au;have ag:o.data.toList=H:=by rw[af]
    have al:(o.toList==[])=decide (o.data.toList=[]):=ha o [];rw[ag]at al;have aA:=l ag;clear aw af ag N O;by_cases s:H=[]
    . rw[bd s]at al;have P:Hid (h=if(u.cQ i).2=0 then u.lay a (a.drop (d+1)) (d+1) (e.data.toList++u.dT (u.cQ i).1 i.V4.toNat)else([],(u.cQ i).2,d+1)):=by
       show h=_;rw[v.out,Cr c (by rw[<-t.out];exact fun g=>g.1 s) i (by unfold u.eA;rw[<-t.out,B s]),<-t.out]
      clear v s;obtain⟨x,E⟩:=y (u.cQ ⟨i.op,i.rd,i.V1,i.V6,i.V2,f⟩);have R:Hid (h=if x.2=0 then u.lay a (a.drop (d+1)) (d+1) (e.data.toList++u.dT x.1 f)else([],x.2,d+1)):=by
       show h=_;have g:=P.out;have ac:i=⟨i.op,i.rd,i.V1,i.V6,i.V2,f⟩:=(by rw[<-I.out]);rw[ac,<-E]at g;first|exact g|(rw[I.out]at g;exact g)
      have F:=bC.new wr C ⟨i.op,i.rd,i.V1,i.V6,i.V2,f⟩ o;have r:Below n.heap.size n (wr.alloc (bX C ⟨i.op,i.rd,i.V1,i.V6,i.V2,f⟩ o)):=zh;have G:=Bb ⟨i.op,i.rd,i.V1,i.V6,i.V2,f⟩ (wr.alloc (bX C ⟨i.op,i.rd,i.V1,i.V6,i.V2,f⟩ o));rw[<-E]at G;have Q:=l (G.mono fun S w g=>(⟨g.1,l (r.trans (g.2.mono r.size)),(F.more g.2 F.lt).W4⟩:_/\Hid (Below n.heap.size n w)/\w.cell? ⟨wr.heap.size,6,none⟩=some (j f)));unfold aW bX at Q;clear G r F E P;go_wp2_with fail;exact MJ
    . rw[aV s]at al;have r:Below n.heap.size n (wr.alloc (bX C ⟨i.op,i.rd,i.V1,i.V6,i.V2,f⟩ o)):=zh;have V:=A6 (some ⟨ao,0,none⟩) ab a av o _ (l (aj.out.below r ai.out));have ax:=fun aK aG=>Oq (some ⟨ao,0,none⟩) ab a av hd aK aG _ (l (aj.out.below r ai.out));rw[aA.out]at V;obtain⟨A,hF⟩:=y (u.ca a H);have aQ:A<=a.length:=by rw[hF];exact u.wy a H
      rw[<-hF]at V;have Y:=l hF;have Z:=l V;have X:=ax A m;have aD:=mp a A hd.out;obtain⟨q,ad⟩:=y (u.place a A);rw[<-ad]at X aD;have az:=l ad;have am:=l X;unfold bX at Z am;clear V ax X r hF ad;by_cases T:A=a.length
      . have aH:Hid (h=([],8,d+1)):=by
         show h=_;rw[v.out];exact Sy c (by rw[<-t.out];exact s) (by rw[<-t.out];show u.ca a H=a.length;rw[<-Y.out];exact T)
        have aB:((A:Int)==(a.length:Int))=true:=M;clear v s T;go_wp2_with(go_at_call 183;refine Z.out.mono ?_;rintro S w ⟨rfl,rfl⟩);go_ret3;exact⟨by rw[aH.out];rfl,J.out.alloc J.out.size _⟩
      . have P:Hid (h=if(u.cQ ⟨i.op,i.rd,i.V1,i.V6,q-e.size,i.V4⟩).2=0 then u.lay a (a.drop (d+1)) (d+1) (e.data.toList++u.dT (u.cQ ⟨i.op,i.rd,i.V1,i.V6,q-e.size,i.V4⟩).1 i.V4.toNat)else([],(u.cQ ⟨i.op,i.rd,i.V1,i.V6,q-e.size,i.V4⟩).2,d+1)):=by
         show h=_;rw[v.out,Cr c (by rw[<-t.out];intro g;exact T (by rw[Y.out];exact g.2)) ⟨i.op,i.rd,i.V1,i.V6,q-e.size,i.V4⟩ (by
          unfold u.eA;rw[<-t.out,z s];show({i with V2:=u.place a (u.ca a H)-_}:U)=_;rw[<-Y.out,<-az.out,dQ];rfl),<-t.out]
        have aB:((A:Int)==(a.length:Int))=false:=M;clear v s T;obtain⟨x,E⟩:=y (u.cQ ⟨i.op,i.rd,i.V1,i.V6,q-e.size,f⟩);have R:Hid (h=if x.2=0 then u.lay a (a.drop (d+1)) (d+1) (e.data.toList++u.dT x.1 f)else([],x.2,d+1)):=by
         show h=_;have g:=P.out;have ac:(⟨i.op,i.rd,i.V1,i.V6,q-e.size,i.V4⟩:U)=⟨i.op,i.rd,i.V1,i.V6,q-e.size,f⟩:=(by rw[<-I.out]);rw[ac,<-E]at g;first|exact g|(rw[I.out]at g;exact g)
        have F:=bC.new wr C ⟨i.op,i.rd,i.V1,i.V6,q-e.size,f⟩ o;have r:Below n.heap.size n (wr.alloc (bX C ⟨i.op,i.rd,i.V1,i.V6,q-e.size,f⟩ o)):=zh;have G:=Bb ⟨i.op,i.rd,i.V1,i.V6,q-e.size,f⟩ (wr.alloc (bX C ⟨i.op,i.rd,i.V1,i.V6,q-e.size,f⟩ o));rw[<-E]at G;have Q:=l (G.mono fun S w g=>(⟨g.1,l (r.trans (g.2.mono r.size)),(F.more g.2 F.lt).W4⟩:_/\Hid (Below n.heap.size n w)/\w.cell? ⟨wr.heap.size,6,none⟩=some (j f)));unfold aW bX at Q;clear G r F E P;go_upto_region 7 with fail;go_wp2_with(first|(go_at_call 183;refine Z.out.mono ?_;rintro S w ⟨rfl,rfl⟩)|(go_at_call 184;refine am.out.mono ?_;rintro S w ⟨rfl,rfl⟩)|(go_at_call 185;fail));exact MJ
  . have aE:Hid (h=(e.data.toList,0,0)):=by
     show h=_;rw[v.out,eQ (by omega)];rfl
    clear v;go_wp2;go_ret3;exact⟨by rw[aE.out];unfold u.aG;simp only[hf];rfl,J.out⟩
theorem P0 (b:Int):(aP b=(aF,2)/\sizeOf b=0)\/∃W:Nat,b=W/\W<4294967296/\
 ((sizeOf b=4/\(aP b=(⟨0,0,0,0,0,4⟩,0)\/∃c:Nat,1<=c/\c<=70/\cJ (ae.longRow c) W=true/\aP b=(bK (ae.longRow c) W,0)))\/
  (sizeOf b=2/\W<65536/\¬W%4=3/\(aP b=(⟨0,0,0,0,0,2⟩,0)\/∃c:Nat,1<=c/\c<=26/\cJ (ae.aZ c) W=true/\aP b=(bK (ae.aZ c) W,0)))):=by
 rcases xy b with a|⟨a,j,n⟩
 . left;exact⟨by unfold aP;rw[B a],a⟩
 . right;obtain⟨W,rfl⟩:=h6 j;refine⟨W,rfl,by omega,?_⟩;rcases a with a|a
   . left;refine⟨a,?_⟩;unfold aP;rw[a,z (by decide),ds];cases f:scan (cK 4 W) 1 (bY 4).toNat with
     |none=>left;rfl
     |some l=>
      right;obtain⟨h,i,g,d⟩:=n5 _ _ f;have e:(bY 4).toNat=70:=rfl;rw[e]at g;unfold cK at d;split at d
      . exact MK
      . cases d
   . right;have k:W<=65535/\¬W%4=3:=by
      unfold sizeOf at a;split at a
      . cases a
      . split at a
        . cases a
        . split at a
          . omega
          . cases a
     refine⟨a,by omega,k.2,?_⟩;unfold aP;rw[a,z (by decide),ds];cases f:scan (cK 2 W) 1 (bY 2).toNat with
     |none=>left;rfl
     |some l=>
      right;obtain⟨h,i,g,d⟩:=n5 _ _ f;have e:(bY 2).toNat=26:=rfl;rw[e]at g;unfold cK at d;split at d
      . exact MK
      . cases d
def hJ (a:L)(b:List L):Nat:=if C.ao (· ==a) b=0 then 0 else if C.ao (· ==a) b=3 then 15 else 2^C.ao (· ==a) b-1
def ta (a:K)(b:L)(W:Nat):aM a b W<=hJ b (C.ah a.data.toList a.size):=by
 have c:=C.mG (· ==b) (C.ah a.data.toList a.size) W;unfold aM hJ;exact KL
def td (b:Int×K×Int):Bool:=
 let a:=C.ah b.2.1.data.toList b.2.1.size
 let c:=(Nm.shape b.1).data.toList.map UInt8.toNat
 decide (1<=b.1)&&decide (b.1<=70)&&decide (0<=dB b.2.2)&&decide ((hJ 68 a:Int)+hJ 66 a+dB b.2.2<=31)&&decide (0<=dC b.2.2)&&decide ((hJ 83 a:Int)+hJ 66 a+dC b.2.2<=31)&&decide (hJ 84 a<=31)&&decide (C.eX a<4294967296)&&decide (C.high a<4294967296)&&
 (c.contains 100 ||decide ((hJ 68 a:Int)+hJ 66 a+dB b.2.2=0))&& (c.contains 115 ||c.contains 109 ||c.contains 117 ||decide ((hJ 83 a:Int)+hJ 66 a+dC b.2.2=0))&& (c.contains 116 ||decide (hJ 84 a=0))&& (c.contains 105 ||c.contains 106 ||c.contains 109 ||(decide (C.eX a=0)&&decide (C.high a=0)))
def SV :((List.range 71).all fun a=>a==0 ||td (ae.longRow a))=true:=by decide+kernel
def Vy :((List.range 27).all fun a=>a==0 ||td (ae.aZ a))=true:=by decide+kernel
def RN (a:K)(b:Bool)(W:Nat)(c:C.eX (C.ah a.data.toList a.size)<4294967296)(d:C.high (C.ah a.data.toList a.size)<4294967296):-10000000000<da a b W/\da a b W<10000000000:=KN
def RO (a:K)(c:Bool)(W:Nat)(e:C.eX (C.ah a.data.toList a.size)=0)(b:C.high (C.ah a.data.toList a.size)=0):da a c W=0:=by
 have d:=C.tk (C.ah a.data.toList a.size) W;unfold da;rw[C.p1,b];split<;>omega
structure Real (i:U)(a:Nat):Prop where
 op:i.op=a
 ZY:1<=a
 ZQ:a<=70
 ZR:i5 i
 rd:100∈u.eN a\/i.rd=0
 V1:115∈u.eN a\/109∈u.eN a\/117∈u.eN a\/i.V1=0
 V6:116∈u.eN a\/i.V6=0
 V2:105∈u.eN a\/106∈u.eN a\/109∈u.eN a\/i.V2=0
def U4 (d:Int×K×Int)(a:td d=true)(W:Nat):∃c,Real (bK d W) c:=by
 obtain⟨f,b,r⟩:=d;have n:=ta b 68 W;have m:=ta b 66 W;have o:=ta b 83 W;have p:=ta b 84 W;simp only[td,cX,cR,cC,List.contains_iff_mem]at a;obtain⟨⟨⟨⟨⟨⟨⟨⟨⟨⟨⟨⟨q,s⟩,t⟩,u⟩,v⟩,w⟩,x⟩,k⟩,l⟩,g⟩,h⟩,i⟩,j⟩:=a;have e:=RN b (hasB r 1) W k l;obtain⟨c,rfl⟩:=h6 (show 0<=f by omega);refine⟨c,rfl,by omega,by omega,⟨?_,?_,?_,?_,?_,?_,e.1,e.2⟩,?_,?_,?_,?_⟩
 . show(0:Int)<=aM b 68 W+aM b 66 W+dB r;omega
 . show(aM b 68 W:Int)+aM b 66 W+dB r<32;omega
 . show(0:Int)<=aM b 83 W+aM b 66 W+dC r;omega
 . show(aM b 83 W:Int)+aM b 66 W+dC r<32;omega
 . show(0:Int)<=aM b 84 W;omega
 . show(aM b 84 W:Int)<32;omega
 . rcases g with a|a
   . exact .inl a
   . exact .inr (by show(aM b 68 W:Int)+aM b 66 W+dB r=0;omega)
 . rcases h with((a|a)|a)|a
   . exact .inl a
   . exact .inr (.inl a)
   . exact .inr (.inr (.inl a))
   . exact .inr (.inr (.inr (by show(aM b 83 W:Int)+aM b 66 W+dC r=0;omega)))
 . rcases i with a|a
   . exact .inl a
   . exact .inr (by show(aM b 84 W:Int)=0;omega)
 . rcases j with((a|a)|a)|a
   . exact .inl a
   . exact .inr (.inl a)
   . exact .inr (.inr (.inl a))
   . exact .inr (.inr (.inr (RO b (hasB r 1) W a.1 a.2)))
def SP (b W:Nat)(d:1<=b)(e:b<=70):∃c,Real (bK (ae.longRow b) W) c:=by
 have a:=cj.1 SV b ad;exact ML
def Vs (b W:Nat)(d:1<=b)(e:b<=26):∃c,Real (bK (ae.aZ b) W) c:=by
 have a:=cj.1 Vy b ad;exact ML
structure sa (d:D)(a c:Nat)(b:aC):Prop where
 V8:d.cell? ⟨a,c,none⟩=some (.string ⟨b.Xz.toArray⟩)
 c1:d.cell? ⟨a,c+1,none⟩=some (j b.i.op)
 c2:d.cell? ⟨a,c+2,none⟩=some (j b.i.op)
 c3:d.cell? ⟨a,c+3,none⟩=some (j b.i.rd)
 c4:d.cell? ⟨a,c+4,none⟩=some (j b.i.V1)
 c5:d.cell? ⟨a,c+5,none⟩=some (j b.i.V6)
 W4:d.cell? ⟨a,c+6,none⟩=some (j b.i.V2)
 W5:d.cell? ⟨a,c+7,none⟩=some (j b.i.V4)
 Xj:d.cell? ⟨a,c+8,none⟩=some (.string ⟨b.Xa.toArray⟩)
 Xi:d.cell? ⟨a,c+9,none⟩=some (j b.i.V4)
def g2 (d:D)(p:Option Addr)(a:List aC):Prop:=a=[]\/∃c,p=some ⟨c,0,none⟩/\∀b (e:b<a.length),sa d c (b*10) a[b]
def sa.below {i f:D}{a b h:Nat}{g:aC}(c:sa i a b g)(d:Below h i f)(e:a<h):sa f a b g:=
 ⟨(d.cell (p:=⟨a,b,none⟩) e).trans c.V8,(d.cell (p:=⟨a,b+1,none⟩) e).trans c.c1,(d.cell (p:=⟨a,b+2,none⟩) e).trans c.c2,(d.cell (p:=⟨a,b+3,none⟩) e).trans c.c3,(d.cell (p:=⟨a,b+4,none⟩) e).trans c.c4,(d.cell (p:=⟨a,b+5,none⟩) e).trans c.c5,(d.cell (p:=⟨a,b+6,none⟩) e).trans c.W4,(d.cell (p:=⟨a,b+7,none⟩) e).trans c.W5,(d.cell (p:=⟨a,b+8,none⟩) e).trans c.Xj,(d.cell (p:=⟨a,b+9,none⟩) e).trans c.Xi⟩
def g2.below {f b:D}{p:Option Addr}{e:Nat}{c:List aC}(a:g2 f p c)(g:Below e f b)(h:∀d,p=some d->d.block<e):g2 b p c:=Mw
def aa9 (p:Option Addr)(C:Nat)(e:List aC)(G:e.length<=5000)(d:K)(A:D)(f:Hid (g2 A p e)):
 O 227 #[.slice p e.length C,.string d] (.bool (decide (u.ca e d.data.toList<e.length))) A:=by
 obtain⟨v,t⟩:=y (u.ca e d.data.toList);rw[<-t];have n:=l t;clear t;obtain⟨o,s⟩:=y (decide (v<e.length):Bool);rw[<-s];have HR:=l s;clear s;go_enter func227,ntmps227;go_wp2;go_loop [5] (fun r=>∃a:Nat,a<=e.length/\r=j a/\Hid (v=a+u.ca (e.drop a) d.data.toList)) (fun r=>e.length- (intOf r).toNat);case atStart=>exact AD
 case round=>
  obtain⟨a,H,rfl,b⟩:=hrel;by_cases c:a<e.length
  . rcases f.out with k|⟨F,rfl,x⟩
    . exact lV
    have k:=(x a c).V8;rw[wx e _ a c]at b;clear x f n;obtain⟨m,i⟩:=y (⟨e[a].Xz.toArray⟩:K);have h:=md d m _ i;rw[<-i]at k;by_cases g:d.data.toList=e[a].Xz
    . rw[B g.symm]at b;rw[bd g]at h;have E:(m.toList==d.toList)=true:=zc;have q:Hid (o=true):=by
       show o=true;rw[HR.out,bd (by rw[b.out];exact c)]
      exact MT
    . exact AC
  . have q:Hid (o=false):=by
     show o=false;rw[HR.out,aV (by rw[b.out];omega)]
    exact MU
def aa1 (p:Option Addr)(C:Nat)(e:List aC)(G:e.length<=5000)(d:K)(A:D)(f:Hid (g2 A p e)):
 O 230 #[.slice p e.length C,.string d] (j (if u.ca e d.data.toList<e.length then(u.ca e d.data.toList:Int)else -1)) A:=by
 obtain⟨r,v⟩:=y (u.ca e d.data.toList);rw[<-v];have n:=l v;clear v;obtain⟨o,t⟩:=y (if r<e.length then(r:Int)else -1:Int);rw[<-t];have HR:=l t;clear t;go_enter func230,ntmps230;go_wp2;go_loop [5] (fun s=>∃a:Nat,a<=e.length/\s=j a/\Hid (r=a+u.ca (e.drop a) d.data.toList)) (fun s=>e.length- (intOf s).toNat);case atStart=>exact AD
 case round=>
  obtain⟨a,H,rfl,b⟩:=hrel;by_cases c:a<e.length
  . rcases f.out with k|⟨F,rfl,x⟩
    . exact lV
    have k:=(x a c).V8;rw[wx e _ a c]at b;clear x f n;obtain⟨m,i⟩:=y (⟨e[a].Xz.toArray⟩:K);have h:=md d m _ i;rw[<-i]at k;by_cases g:d.data.toList=e[a].Xz
    . rw[B g.symm]at b;rw[bd g]at h;have E:(m.toList==d.toList)=true:=zc;have q:Hid (o=a):=by
       show o=a;have:=b.out;rw[HR.out,B (by omega),this]
      exact MT
    . exact AC
  . have q:Hid (o=-1):=by
     show o=-1;have:=b.out;rw[HR.out,z (by omega)]
    exact MU
theorem w9 :∀(a:List aC) (b:Nat) (c:b<a.length),u.place a (b+1)=u.place a b+a[b].i.V4
 |[],b,c=>by simp at c
 |e::a,0,c=>by cases a<;>simp[u.place]
 |e::a,b+1,c=>by
  have d:=w9 a b (by simpa using c)
  simp only[u.place,List.getElem_cons_succ]at d|-
  rw[d];omega
theorem aaW (p:Option Addr)(s:Nat)(a:List aC)(A:a.length<=5000)(hd:Hid (Tidy a))(o:D)(i:Hid (g2 o p a)):∀(b:Nat),b<=a.length->
 O 231 #[.slice p a.length s,j b] (j (u.place a b)) o:=by
 intro b;induction b with
 |zero=>
  intro _;have f:u.place a 0=0:=by cases a<;>rfl
  rw[f];go_enter func231,ntmps231;go_wp2_with fail;go_ret;exact⟨rfl,rfl⟩
 |succ b n=>
  intro B;have c:b<a.length:=J;have d:=n m;rcases i.out with k|⟨z,rfl,h⟩
  . exact lV
  have t:=(h b c).Xi;have w:=hd.out a[b] (gf c);have v:=mp a b hd.out;rw[w9 a b c];obtain⟨q,e⟩:∃q,q=a[b].i.V4:=⟨_,rfl⟩;obtain⟨x,g⟩:=y (u.place a b);rw[<-e]at t w|-;rw[<-g]at d v|-;have r:=l d;have C:(((b+1:Nat):Int)==0)=false:=M;clear e g d h i n hd;go_enter func231,ntmps231;go_wp2_with fail;refine r.out.mono ?_;rintro f E ⟨rfl,rfl⟩;go_wp2;go_ret;exact⟨rfl,rfl⟩
def Vh (b:K)(a c:Nat)(d:a<b.size)(e:c<=a)(f:¬b[a].toNat=10):u.bP ((b.data.toList.take a).drop c) (b.data.toList.drop a)=u.bP ((b.data.toList.take (a+1)).drop c) (b.data.toList.drop (a+1)):=by
 rw[Eg b c a d e,eF b a d];simp only[u.bP];rw[z f]
def Vg (b:K)(a c:Nat)(d:a<b.size)(f:b[a].toNat=10):u.bP ((b.data.toList.take a).drop c) (b.data.toList.drop a)=(b.data.toList.take a).drop c::u.bP ((b.data.toList.take (a+1)).drop (a+1)) (b.data.toList.drop (a+1)):=by
 have e:(b.data.toList.take (a+1)).drop (a+1)=[]:=HB;rw[eF b a d,e];simp only[u.bP];rw[B f]
def aa2 (a:K)(ag:a.size<=4096)(b:D):
 Calls prog 153 #[.string a] b fun V E=>∃i,V=.returned i/\i≠ .slice none 0 0/\E.ownsRow b.heap.size 9 1 i (u.bP [] a.data.toList).length ((u.bP [] a.data.toList).map u.aG)/\Below b.heap.size b E:=by
 have aa:∀b,(Instr.buildSlice 165 0 #[]).run prog b=.ok (.slice (some ⟨b.heap.size,0,none⟩) 0 0) (b.alloc (.cells #[] 9)):=fun _=>by kernel_rfl
 obtain⟨S,I,O,P,Q⟩:=hy Tryz.YN;obtain⟨n,q⟩:=y (u.bP [] a.data.toList);rw[<-q];have F:Hid (n=[]++u.bP ((a.data.toList.take 0).drop 0) (a.data.toList.drop 0)):=q;clear q;go_enter func153,ntmps153;go_wp2;go_loopw [3,4,5] (fun i Y z wr=>∃(c d:Nat) (p:List (List L)),c<=a.size/\d<=c/\p.length<=c/\Y=j d/\z=j c/\i≠ .slice none 0 0/\wr.ownsRow b.heap.size 9 1 i p.length (p.map u.aG)/\Below b.heap.size b wr/\Hid (n=p++u.bP ((a.data.toList.take c).drop d) (a.data.toList.drop c))) (fun _ _ z _=>a.size- (intOf z).toNat);case atStart=>exact⟨0,0,[],by omega,by omega,by simp,rfl,rfl,by simp,ri b _ 0 (aB _) gq rfl,(aq _ _).alloc (aB _) _,F⟩
 case round=>
  obtain⟨c,d,p,Z,H,af,rfl,rfl,ab,h,o,g⟩:=hrel;have W:=o.size;have X:∀T,u3.ownBlock=some T->b.heap.size<=T:=uX;clear F aa;by_cases N:c<a.size
  . by_cases s:a[c].toNat=10
    . have U:((a[c].toNat:Int)==10)=true:=M;rw[Vg a c d N s]at g;obtain⟨e,f⟩:=y (a.extract d c);have ac:∀b,(Instr.slice 9 (.string a) (some (.int .i64 (d:Int))) (some (.int .i64 (c:Int))) none).run prog b=.ok (.string e) b:=by
       intro b;rw[f];exact mz a d c H Z b
      have r:Value.string e=u.aG ((a.data.toList.take c).drop d):=by
       rw[<-ws,<-f];unfold u.aG;rw[hf]
      have x:=l r;clear f r s;go_wp2_with(at_builtin;refine j8 _ rfl (.tmp 17) (.tmp 22) 165 rfl b.heap.size 9 S (.string ⟨#[]⟩) 1 16 Tryz.underlying165 I O P Q rfl R _ _ _ rfl (h.alloc _) ⟨_,0,none⟩ 1 1 [.string e] rfl rfl ?c1 ?c2 ?c3 ?c4 ?c5 ?_);case c1=>
       exact m9
      case c2=>exact ps
      case c3=>exact gq
      case c4=>omega
      case c5=>simp;omega
      intro w C k m t;have v:w≠ .slice none 0 0:=pd;clear t;have A:Below b.heap.size b C:=uY;clear h m;rw[x.out]at k;go_wp2;go_roundw;case rel=>exact⟨c+1,c+1,p++[(a.data.toList.take c).drop d],by omega,by omega,by simp;omega,by go_num,by go_num,v,by simpa using k,A,by show n=_;rw[g.out];simp⟩
      case measure=>exact a5
    . have U:((a[c].toNat:Int)==10)=false:=M;rw[Vh a c d N H s]at g;clear s;go_wp2;go_roundw;case rel=>exact⟨c+1,d,p,by omega,by omega,by omega,rfl,by go_num,ab,h,o,g⟩
      case measure=>exact a5
  . have ae:decide ((c:Int)< (a.size:Int))=false:=M;have G:c=a.size:=J;have q:Hid (n=p++[a.data.toList.drop d]):=by
     show n=_;rw[g.out,eQ (i:=c) (by rw[dQ,G];exact aB _)];rw[yx (by rw[dQ,G];exact aB _)];rfl
    obtain⟨e,f⟩:=y (a.extract d a.size);have ac:∀b,(Instr.slice 9 (.string a) (some (.int .i64 (d:Int))) none none).run prog b=.ok (.string e) b:=by
     intro b;rw[f];rw[ua b 9 a .i64 d h5,B ⟨by omega,by omega⟩];simp
    have r:Value.string e=u.aG (a.data.toList.drop d):=by
     have:=ws a d a.size;rw[yx (by rw[dQ];exact aB _)]at this;rw[<-this,<-f];unfold u.aG;rw[hf]
    have x:=l r;clear f r g;go_wp2_with(at_builtin;refine j8 _ rfl (.tmp 26) (.tmp 30) 165 rfl b.heap.size 9 S (.string ⟨#[]⟩) 1 16 Tryz.underlying165 I O P Q rfl R _ _ _ rfl (h.alloc _) ⟨_,0,none⟩ 1 1 [.string e] rfl rfl ?c1 ?c2 ?c3 ?c4 ?c5 ?_);case c1=>
     exact m9
    case c2=>exact ps
    case c3=>exact gq
    case c4=>omega
    case c5=>simp;omega
    intro w C k m t;have v:w≠ .slice none 0 0:=pd;clear t;have A:Below b.heap.size b C:=uY;clear h m;rw[x.out]at k;go_wp2;go_ret;exact⟨_,rfl,v,by rw[q.out];simpa using k,A⟩
end Go.Proofs.YtmlgonbhoknoiaaGreatDoor
