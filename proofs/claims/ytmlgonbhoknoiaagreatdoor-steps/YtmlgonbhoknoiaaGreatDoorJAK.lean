import Derived.Test.YtmlgonbhoknoiaaGreatDoorJAG
import Derived.Test.YtmlgonbhoknoiaaGreatDoorJAI
set_option maxHeartbeats 8000000
set_option maxRecDepth 100000
set_option linter.all false
namespace Go.Proofs.YtmlgonbhoknoiaaGreatDoor
open Go.RowKit Go.Proofs.Tryz
def e8 (a i:Nat)(b:Int)(f:b=(i:Int))(d:G a)(e:i<=40)(c:D):
 O 443 #[j a,j b] (.bool (ab a i)) c:=by
 subst f;exact acW a i d e c
def EG (t i k H F:Nat)(c:ai)(a e mode:Nat)(d:G a)(C:e=0\/e=1\/e=2)(E:mode=0\/mode=1)(b:D)(h:Hid (V b t i k H F c)):
 O 444 #[I t,j a,j e,j mode] (.bool (g5 c.f a e mode)) b:=by
 have c1:=h.out.c1;have B:=l (acP k i c.f b (l h.out.WW));have A:=l (acF k i c.f b (l h.out.WW));have v:=l (e8 a 1 1 rfl d m b);have w:=l (e8 a 2 2 rfl d m b);have x:=l (e8 a 3 3 rfl d m b);have z:=l (e8 a 4 4 rfl d m b);unfold g5;obtain⟨u,hu⟩:=y (ab a 4);obtain⟨r,o⟩:=y (ab a 1);obtain⟨wr,q⟩:=y (ab a 2);obtain⟨K,s⟩:=y (ab a 3);obtain⟨sum,p⟩:=y (decide (c.f.sum=1));obtain⟨J,n⟩:=y (decide (c.f.WT=1));rw[<-hu]at z|-;rw[<-o]at v|-;rw[<-q]at w|-;rw[<-s]at x|-;rw[<-p]at B|-;rw[<-n]at A|-;clear hu o q s p n h d;rcases E with rfl|rfl
 . cases u
   . exact kj
   . exact zJ
 . cases u
   . exact zJ
   . cases sum
     . rcases C with rfl|rfl|rfl
       . exact kj
       . exact kj
       . exact kj
     . exact zJ
def cd (a b:Int)(c:D):
 Calls prog 83 #[.agg #[j a,j b]] c fun e d=>e=.returned (.bool (a==-1))/\d=c.alloc (.cells #[j a,j b] 118):=by
 go_enter func83,ntmps83;exact cn
def on (a:D):
 Calls prog 199 #[] a fun c b=>c=.returned (.agg #[j (-1),j 0])/\b=a.alloc (.cells #[j (-1),j 0] 118):=by
 go_enter func199,ntmps199;go_wp2_with fail;exact ac (v:=.agg #[j (-1),j 0]) (by simp[results,results199,go_sem]) rfl ⟨rfl,rfl⟩
def agp (f b g c:Nat)(k:D):
 Calls prog 257 #[.agg #[j f,j b],.agg #[j g,j c]] k fun n m=>n=.returned (.bool (decide (c<b\/b=c/\g<=f)))/\m=(k.alloc (.cells #[j f,j b] 69)).alloc (.cells #[j g,j c] 69):=by
 obtain⟨h,a⟩:=y (decide (c<b\/b=c/\g<=f));rw[<-a];by_cases d:c<b
 . have o:decide ((c:Int)<b)=true:=by simp;exact d
   have l:decide (c<b)=true:=by simp;exact d
   have e:Hid (h=true):=by rw[a];show _=_;simp[d]
   clear a d;exact Jn
 . have o:decide ((c:Int)<b)=false:=M;have l:decide (c<b)=false:=M;by_cases i:b=c
   . subst i;have e:Hid (h=decide (g<=f)):=AK;clear a d;go_enter func257,ntmps257;go_wp2_with fail;all_goals (go_ret;exact⟨by rw[e.out];first|rfl|(simp[*]),rfl⟩)
   . have p:((b:Int)==c)=false:=M;have e:Hid (h=false):=by rw[a];show _=_;simp[d,i]
     clear a d i;exact Jn
def wM (a:Int):IntKind.i64.wrap a=wrap64 a:=by rw[ud];unfold wrap64;omega
def T4 (a b:Nat):(am ((a:Int)+b):Int)=((a+b)%4294967296:Nat):=by unfold am;omega
def T3 (a b c:Nat):(am (IntKind.i64.wrap ((b:Int)+((a:Int)+c)/4294967296)):Int)=((b+(a+c)/4294967296)%4294967296:Nat):=by rw[wM,qP];unfold am;omega
def ahF (a c b:Nat)(f:G a)(g:G c)(h:G b)(d:D):
 aE 86 #[.agg #[j a,j c],j b] (.agg #[j ((a+b)%4294967296:Nat),j ((c+(a+b)/4294967296)%4294967296:Nat)]) d:=by
 rw[<-T4,<-T3];go_enter func86,ntmps86;go_upto_region 2 with fail;go_region_with(go_at_call 136;refine(e0 _ _).mono ?_;rintro e i ⟨rfl,rfl⟩);all_goals
  go_wp2_with fail;exact ac (v:=.agg #[j (am ((a:Int)+b)),j (am (IntKind.i64.wrap ((c:Int)+((a:Int)+b)/4294967296)))]) (by simp[results,results86,go_sem]) rfl ⟨rfl,by repeat(first|exact Kept.refl _ _|refine Kept.drew ?_|refine Kept.alloc ?_ _)⟩
section
attribute [local go_sem ↓] Go.wp_at_zero Go.wp_at_succ
def ee (a:P):Value:=.agg #[j a.Wj,j a.time,j a.Wh,j a.cmp,j a.Wv]
def bx (a:P):Value:=.agg #[j a.enable,j a.Wr,.bool a.lost,.string a.rx,.string a.Wc]
def Tn (a:P):decide (a.Wv<a.Wh\/a.Wh=a.Wv/\a.cmp<=a.time)=fP a:=by
 unfold fP;by_cases b:a.Wv<a.Wh<;>by_cases c:a.Wh=a.Wv<;>simp[b,c]
def fz (a:P):Nat:=a.Wj*8 |||(fP a).toNat*128
def aiZ (a:P)(n:aT a)(b:D):
 aE 186 #[ee a] (j (fz a)) b:=by
 have p:=n.Wj;have f:bits .or .i64 ((a.Wj:Int)*8) (((fP a).toNat:Int)*128)=(fz a:Int):=by
  have:=g8 (a.Wj*8) ((fP a).toNat*128) m (by cases fP a<;>decide);simpa[fz]using this
 have e:=fun b=>l (agp a.time a.Wh a.cmp a.Wv b);simp only[Tn]at e;obtain⟨d,h⟩:=y (fP a);obtain⟨o,g⟩:=y (fz a);rw[<-h]at e f;rw[<-g]at f|-;clear h g;unfold ee;have q:d.toNat<2:=by cases d<;>decide
 have i:IntKind.i64.wrap ((a.Wj:Int)*8)=(a.Wj:Int)*8:=dG;have r:IntKind.i64.wrap ((d.toNat:Int)*128)=(d.toNat:Int)*128:=dG;go_enter func186,ntmps186;go_upto_region 1 with fail;go_region_held3 (fun c=>c.cell? ⟨b.heap.size,0,none⟩=some (j a.Wj)/\c.cell? ⟨b.heap.size,1,none⟩=some (j a.time)/\c.cell? ⟨b.heap.size,2,none⟩=some (j a.Wh)/\c.cell? ⟨b.heap.size,3,none⟩=some (j a.cmp)/\c.cell? ⟨b.heap.size,4,none⟩=some (j a.Wv)) (go_keep) (first|(go_at_call 257;refine(e _).out.mono ?_;rintro k i ⟨rfl,rfl⟩)|(go_at_call 256;refine(mJ _ _).mono ?_;rintro k i ⟨rfl,rfl⟩));all_goals
  go_wp2_with fail;go_ret;refine⟨?_,?_⟩
  . simp only[Act.put];simp[f]
  . exact Jo
def qF (a:P)(b:Int):Nat:=if b=0 then a.Wj else if b=16384 then a.cmp else if b=16388 then a.Wv else if b=49144 then a.time else if b=49148 then a.Wh else 0
def ai4 (b:P)(c:Int)(e:D):
 aE 342 #[ee b,j c] (j (qF b c)) e:=by
 obtain⟨f,a⟩:=y (qF b c);rw[<-a];unfold qF at a;have d:=l a;clear a;unfold ee;go_enter func342,ntmps342;go_wp2_with fail;all_goals (go_ret;refine⟨eM ?_,(Kept.refl _ _).alloc _⟩;rw[d.out];simp_all)
def hZ (a:P)(b:Int)(c:Nat):P:=if b=0 then{a with Wj:=c%2}else if b=16384 then{a with cmp:=c}else if b=16388 then{a with Wv:=c}else if b=49144 then{a with time:=c}else if b=49148 then{a with Wh:=c}else a
def ai5 (a:P)(g:Int)(e:Nat)(i:D):
 aE 345 #[ee a,j g,j e] (ee (hZ a g e)) i:=by
 have k:bits .and .i64 (e:Int) 1=((e%2:Nat):Int):=by rw[pQ];simp
 by_cases b:g=0
 . subst b;rw[show hZ a 0 e={a with Wj:=e%2}from rfl];unfold ee;go_enter func345,oI;go_wp2_with fail;exact ac (v:=ee {a with Wj:=e%2}) oV rfl ⟨rfl,by repeat(first|exact Kept.refl _ _|refine Kept.drew ?_|refine Kept.alloc ?_ _)⟩
 have l:(g==0)=false:=kl;by_cases d:g=16384
 . subst d;rw[show hZ a 16384 e={a with cmp:=e}from rfl];unfold ee;go_enter func345,oI;go_wp2_with fail;exact ac (v:=ee {a with cmp:=e}) oV rfl ⟨rfl,by repeat(first|exact Kept.refl _ _|refine Kept.drew ?_|refine Kept.alloc ?_ _)⟩
 have m:(g==16384)=false:=iZ;by_cases c:g=16388
 . subst c;rw[show hZ a 16388 e={a with Wv:=e}from rfl];unfold ee;go_enter func345,oI;go_wp2_with fail;exact ac (v:=ee {a with Wv:=e}) oV rfl ⟨rfl,by repeat(first|exact Kept.refl _ _|refine Kept.drew ?_|refine Kept.alloc ?_ _)⟩
 have n:(g==16388)=false:=eT;by_cases f:g=49144
 . subst f;rw[show hZ a 49144 e={a with time:=e}from rfl];unfold ee;go_enter func345,oI;go_wp2_with fail;exact ac (v:=ee {a with time:=e}) oV rfl ⟨rfl,by repeat(first|exact Kept.refl _ _|refine Kept.drew ?_|refine Kept.alloc ?_ _)⟩
 have o:(g==49144)=false:=lS;by_cases h:g=49148
 . subst h;rw[show hZ a 49148 e={a with Wh:=e}from rfl];unfold ee;go_enter func345,oI;go_wp2_with fail;exact ac (v:=ee {a with Wh:=e}) oV rfl ⟨rfl,by repeat(first|exact Kept.refl _ _|refine Kept.drew ?_|refine Kept.alloc ?_ _)⟩
 have p:(g==49148)=false:=by simp[h]
 rw[show hZ a g e=a by simp[hZ,b,d,c,f,h]];clear b d c f h;unfold ee;go_enter func345,oI;go_wp2_with fail;exact ac (v:=ee a) oV rfl ⟨rfl,by repeat(first|exact Kept.refl _ _|refine Kept.drew ?_|refine Kept.alloc ?_ _)⟩
def x3 (a:P)(c:D):
 Calls prog 331 #[bx a] c fun f d=>f=.returned (.bool (decide (a.Wc.size<8)))/\d=c.alloc (.cells #[j a.enable,j a.Wr,.bool a.lost,.string a.rx,.string a.Wc] 75):=by
 obtain⟨e,b⟩:=fH (decide ((a.Wc.size:Int)<8));have HR:Hid (decide (a.Wc.size<8)=e):=ID;unfold bx;go_enter func331,ntmps331;exact zB
def Pr (a:Nat)(c:a<8):(bits .and .i64 (a:Int) 4 !=0)=decide (a/4%2=1)/\(bits .and .i64 (a:Int) 1 !=0)=decide (a%2=1)/\(bits .and .i64 (a:Int) 2 !=0)=decide (a/2%2=1):=by
 have b:a=0\/a=1\/a=2\/a=3\/a=4\/a=5\/a=6\/a=7:=J;rcases b with rfl|rfl|rfl|rfl|rfl|rfl|rfl|rfl<;>exact⟨by decide,by decide,by decide⟩
def qr (a:K):a.toList.isEmpty=!decide (0<a.size):=by
 have b:a.size=a.data.toList.length:=rfl;rw[ByteArray.toList_eq,b];cases a.data.toList<;>simp
def Fv (a:P)(s:a.enable<8)(g:D):
 aE 258 #[bx a] (j (eO a)) g:=by
 obtain⟨w,u,v⟩:=Pr a.enable s;have c:=fun g=>l (x3 a g);obtain⟨H,b⟩:=y (eO a);rw[<-b];unfold eO at b;obtain⟨E,r⟩:=y (decide (a.enable/4%2=1));obtain⟨B,p⟩:=y (decide (a.enable%2=1));obtain⟨C,q⟩:=y (decide (a.enable/2%2=1));obtain⟨i,d⟩:=y (decide (0<a.rx.size));obtain⟨I,f⟩:=y (decide (a.Wc.size<8));rw[<-r]at w b;rw[<-p]at u b;rw[<-q]at v b;rw[<-d]at b;rw[<-f]at b;simp only[<-f]at c;unfold bx at c|-;clear r p q f;obtain⟨F,t⟩:=y (a.lost);rw[<-t]at b c|-;clear t;obtain⟨h,z,e,x,G⟩:∃h z e x,h=a.enable/\z=a.Wc/\e=a.rx/\x=a.Wr:=⟨_,_,_,_,rfl,rfl,rfl,rfl⟩;obtain⟨k,m,n,o⟩:=G;simp only[<-k,<-m,<-n,<-o]at c w u v d|-;have K:e.toList.isEmpty=!i:=by rw[d];exact qr e
 clear k m n o s d;cases E<;>cases F<;>cases B<;>cases i<;>cases C;all_goals
  have A:=l b;clear b;go_enter func258,ntmps258;go_wp2_with(go_at_call 331;refine(c _).out.mono ?_;rintro J L ⟨rfl,rfl⟩);all_goals (go_ret;refine⟨eM (by rw[A.out];simp_all),?_⟩)
  all_goals (repeat(first|exact Kept.refl _ _|refine Kept.drew ?_|refine Kept.alloc ?_ _))
def wrap_small (a:Int)(b:-9223372036854775808<=a)(c:a<=9223372036854775807):wrap64 a=a:=by unfold wrap64;omega
def aiP (a:P):hV a=(decide (0<a.rx.size)).toNat+2*a.lost.toNat+32* (decide (a.Wc.size<8)).toNat+64* (!decide (0<a.Wc.size)).toNat:=by
 unfold hV;have b:decide (a.Wc.size=0)=!decide (0<a.Wc.size):=by by_cases c:a.Wc.size=0<;>simp[c];omega
 rw[b];cases decide (0<a.rx.size)<;>cases a.lost<;>cases decide (a.Wc.size<8)<;>cases decide (0<a.Wc.size)<;>rfl
def ahQ (a:P)(b:D):
 aE 380 #[bx a] (j (hV a)) b:=by
 have g:=fun b=>l (x3 a b);rw[aiP];obtain⟨h,k⟩:=y (decide (0<a.rx.size));obtain⟨o,p⟩:=y (decide (a.Wc.size<8));obtain⟨i,m⟩:=y (decide (0<a.Wc.size));simp only[<-p]at g;rw[<-k,<-p,<-m];unfold bx at g|-;obtain⟨n,f,e,q,c,x⟩:∃n f e q c,n=a.enable/\f=a.Wc/\e=a.rx/\q=a.Wr/\c=a.lost:=⟨_,_,_,_,_,rfl,rfl,rfl,rfl,rfl⟩;obtain⟨r,s,t,u,v⟩:=x;simp only[<-r,<-s,<-t,<-u,<-v]at g k m|-;have A:e.toList.isEmpty=!h:=by rw[k];exact qr e
 have B:f.toList.isEmpty=!i:=by rw[m];exact qr f
 clear r s t u v k m p;have C:h.toNat<2:=by cases h<;>decide
 have E:o.toNat<2:=by cases o<;>decide
 have F:c.toNat<2:=by cases c<;>decide
 have G:(!i).toNat<2:=by cases i<;>decide
 go_enter func380,ntmps380;go_upto_region 1 with fail;go_region_held3 (fun d=>d.cell? ⟨b.heap.size,0,none⟩=some (j n)/\d.cell? ⟨b.heap.size,1,none⟩=some (j q)/\d.cell? ⟨b.heap.size,2,none⟩=some (.bool c)/\d.cell? ⟨b.heap.size,3,none⟩=some (.string e)/\d.cell? ⟨b.heap.size,4,none⟩=some (.string f)) (go_keep) (first|(go_at_call 331;refine(g _).out.mono ?_;rintro w z ⟨rfl,rfl⟩)|(go_at_call 256;refine(mJ _ _).mono ?_;rintro w z ⟨rfl,rfl⟩));all_goals
  go_wp2_with fail;go_ret;refine⟨?_,?_⟩
  . cases h<;>cases c<;>cases o<;>cases i<;>rfl
  . exact Jo
def ec (b:D)(d:Obj)(a c:Nat)(e:¬a=b.heap.size):(b.alloc d).cell? ⟨a,c,none⟩=b.cell? ⟨a,c,none⟩:=by
 by_cases f:a<b.heap.size
 . exact((Kept.refl [] b).alloc d).cell (p:=⟨a,c,none⟩) f F
 . simp only[World.cell?,World.alloc];rw[Array.getElem?_push,z e]
def Below.box {W c:D}(d:Below W.heap.size W c)(b:Nat)(e:b<W.heap.size):(∀a,c.cell? ⟨b,a,none⟩=W.cell? ⟨b,a,none⟩)/\(∀a,c.frozen? ⟨b,a,none⟩=W.frozen? ⟨b,a,none⟩):=
 ⟨fun a=>d.cell (p:=⟨b,a,none⟩) e,fun a=>d.frozen (p:=⟨b,a,none⟩) e⟩
def Kept.box {W c:D}{d:List Nat}(e:Kept d W c)(b:Nat)(f:b<W.heap.size)(g:b∉d):(∀a,c.cell? ⟨b,a,none⟩=W.cell? ⟨b,a,none⟩)/\(∀a,c.frozen? ⟨b,a,none⟩=W.frozen? ⟨b,a,none⟩):=
 ⟨fun a=>e.cell (p:=⟨b,a,none⟩) f g,fun a=>e.frozen (p:=⟨b,a,none⟩) f g⟩
def hj (a:P):Nat:=if eO a=1 then 0 else 2560
def ahE (b:P)(k:b.enable<8)(d:D):
 aE 187 #[bx b] (j (hj b)) d:=by
 have e:=fun d=>l (Fv b k d);obtain⟨i,a⟩:=y (hj b);rw[<-a];unfold hj at a;obtain⟨g,f⟩:=y (eO b);simp only[<-f]at e a;clear f;unfold bx at e|-;by_cases c:g=1
 . subst c;have h:=l a;clear a;exact Jp
 . have h:Hid (i=2560):=by rw[a];show _=_;simp[c]
   have n:((g:Int) !=1)=true:=M;clear a c;exact Jp
def ed (a:P)(b:Int):P:=if a.rx.size<4 then{a with rx:=a.rx++strOfNums (b4 b 1)}else{a with lost:=true}
def ago (a:P)(x:a.rx.size<=4)(b:Int)(i:D):
 aE 126 #[bx a,j b] (bx (ed a b)) i:=by
 by_cases c:a.rx.size<4
 . rw[show ed a b={a with rx:=a.rx++strOfNums (b4 b 1)}by unfold ed;rw[B c]];unfold bx;dsimp only;obtain⟨e,h,d,g,f,w⟩:∃e h d g f,e=a.enable/\h=a.Wc/\d=a.rx/\g=a.Wr/\f=a.lost:=⟨_,_,_,_,_,rfl,rfl,rfl,rfl,rfl⟩;obtain⟨p,q,r,s,t⟩:=w;simp only[<-p,<-q,<-r,<-s,<-t]at c x|-;have C:decide ((4:Int)<=d.size)=false:=M;have k:∀W,Hid (aa 177 #[j b,j 1] (.string (strOfNums (b4 b 1))) W):=fun W=>l (se b 1 R W);obtain⟨o,hS⟩:=y (strOfNums (b4 b 1));simp only[<-hS]at k|-;have H:o.size=1:=by rw[hS,oa,kR]
   obtain⟨v,u,G,F⟩:=bj d o m;rw[<-u];clear p q r s t c hS u;go_enter func126,ntmps126;go_upto_region 4 with fail;go_region_with(first|(go_at_call 177;refine(k _).out.mono ?_;rintro E J ⟨rfl,n⟩;obtain⟨I,f0⟩:=Below.box n i.heap.size aL;obtain⟨A,f1⟩:=Below.box n (i.heap.size+1) aL));all_goals
    go_wp2_with fail;exact ac (v:=.agg #[j e,j g,.bool f,.string v,.string h]) (by simp[results,results126,go_sem,A]) rfl ⟨rfl,FT⟩
 . rw[show ed a b={a with lost:=true}by unfold ed;rw[z c]];have C:decide ((4:Int)<=a.rx.size)=true:=M;unfold bx;dsimp only;go_enter func126,ntmps126;go_wp2_with fail;exact ac (v:=.agg #[j a.enable,j a.Wr,.bool true,.string a.rx,.string a.Wc]) (by simp[results,results126,go_sem]) rfl ⟨rfl,gp⟩
def hk (a:P)(b:Int)(c:Nat):P:=if b=0 then(if a.Wc.size<8 then{a with Wc:=a.Wc++strOfNums (b4 c 1)}else a)else if b=1 then{a with enable:=c%8}else if b=7 then{a with Wr:=c}else a
def Pa (a:Nat):bits .and .i64 (a:Int) 7=((a%8:Nat):Int):=by
 have:=i7 (a:Int) 3 R;have c:((2:Int)^3)=8:=cM;have d:((2^3-1:Nat):Int)=7:=cM;exact vq
def ahR (a:P)(J:a.Wc.size<=8)(f:Int)(c:Nat)(e:D):
 aE 346 #[bx a,j f,j c] (bx (hk a f c)) e:=by
 by_cases b:f=0
 . subst b;have g:=fun e=>l (x3 a e);by_cases i:a.Wc.size<8
   . rw[show hk a 0 c={a with Wc:=a.Wc++strOfNums (b4 c 1)}by unfold hk;rw[B rfl,B i]];rw[bd i]at g;unfold bx at g|-;dsimp only at g|-;obtain⟨o,t,r,s,q,I⟩:∃o t r s q,o=a.enable/\t=a.Wc/\r=a.rx/\s=a.Wr/\q=a.lost:=⟨_,_,_,_,_,rfl,rfl,rfl,rfl,rfl⟩;obtain⟨x,A,C,E,F⟩:=I;simp only[<-x,<-A,<-C,<-E,<-F]at i J g|-;have u:∀W,Hid (aa 177 #[j c,j 1] (.string (strOfNums (b4 c 1))) W):=fun W=>l (se c 1 R W);obtain⟨v,hS⟩:=y (strOfNums (b4 c 1));simp only[<-hS]at u|-;have N:v.size=1:=by rw[hS,oa,kR]
     obtain⟨H,G,M,L⟩:=bj t v m;rw[<-G];clear x A C E F i hS G;go_enter func346,ntmps346;go_upto_region 4 with(go_at_call 331;refine(g _).out.mono ?_;rintro w h ⟨rfl,rfl⟩);go_region_with(first|(go_at_call 177;refine(u _).out.mono ?_;rintro w h ⟨rfl,n⟩;obtain⟨k,f0⟩:=Below.box n e.heap.size aL;obtain⟨K,f1⟩:=Below.box n (e.heap.size+1) aL;have O:h.cell? ⟨e.heap.size,0,none⟩=some (j o):=(k 0).trans rl;have Q:h.cell? ⟨e.heap.size,1,none⟩=some (j s):=(k 1).trans rl;have S:h.cell? ⟨e.heap.size,2,none⟩=some (.bool q):=(k 2).trans rl;have T:h.cell? ⟨e.heap.size,3,none⟩=some (.string r):=(k 3).trans rl;have U:h.cell? ⟨e.heap.size,4,none⟩=some (.string t):=(k 4).trans rl;clear k));all_goals
      go_wp2_with fail;exact ac (v:=.agg #[j o,j s,.bool q,.string r,.string H]) (by simp[results,results346,go_sem,K]) rfl ⟨rfl,FT⟩
   . rw[show hk a 0 c=a by unfold hk;rw[B rfl,z i]];rw[aV i]at g;unfold bx at g|-;go_enter func346,ntmps346;go_wp2_with(go_at_call 331;refine(g _).out.mono ?_;rintro w h ⟨rfl,rfl⟩);exact Jq
 have X:(f==0)=false:=kl;by_cases d:f=1
 . subst d;have V:=Pa c;rw[show hk a 1 c={a with enable:=c%8}from rfl];unfold bx;dsimp only;go_enter func346,ntmps346;go_wp2_with fail;exact ac (v:=.agg #[j ((c%8:Nat):Int),j a.Wr,.bool a.lost,.string a.rx,.string a.Wc]) yD rfl ⟨rfl,gp⟩
 have Y:(f==1)=false:=iZ;by_cases p:f=7
 . subst p;rw[show hk a 7 c={a with Wr:=c}from rfl];unfold bx;dsimp only;go_enter func346,ntmps346;go_wp2_with fail;exact ac (v:=.agg #[j a.enable,j c,.bool a.lost,.string a.rx,.string a.Wc]) yD rfl ⟨rfl,gp⟩
 have Z:(f==7)=false:=by simp[p]
 rw[show hk a f c=a by unfold hk;rw[z b,z d,z p]];clear b d p;unfold bx;go_enter func346,ntmps346;go_wp2_with fail;exact Jq
end
def wb (a i:Nat):ab a i=decide (a/2^i%2=1):=rfl
def v5 (a:Nat):(a&&&6144)/2048=a/2048%4:=by
 have b:a&&&6144=(a&&&2^11) |||(a&&&2^12):=by rw[<-l2];rfl
 rw[b,fL,fL];have c:ab a 11=decide (a/2048%4%2=1):=by unfold ab;congr 2;omega
 have d:ab a 12=decide (a/2048%4/2=1):=by
  unfold ab;have:a/2^12%2=a/2048%4/2:=by omega
  rw[this]
 rw[c,d];have e:a/2048%4=0\/a/2048%4=1\/a/2048%4=2\/a/2048%4=3:=J;rcases e with b|b|b|b<;>rw[b]<;>rfl
theorem tC (p x:Nat)(c:N)(w:G c.c.V5)(d:Int)(u)(o:Hid (E u p x c)):
 O 332 #[I p,j d] (j (cx (S c) d)) u:=by
 have A:=o.out.Xl;have v:=o.out.Xm;obtain⟨g,a⟩:=y (cx (S c) d);rw[<-a];unfold cx S at a;dsimp only at a;obtain⟨b,l⟩:=y (c.c.V5);rw[<-l]at v a w;have q:bits .and .i64 (b:Int) 131072=((b&&&131072:Nat):Int):=bm b 131072 m m;have i:=fh (b&&&131072);have k:decide (b&&&131072=0)=!ab b 17:=dj b 17;rw[k,q9,<-q]at i;have s:bits .and .i64 (b:Int) 6144=((b&&&6144:Nat):Int):=bm b 6144 m m;have t:((b&&&6144:Nat):Int)/2048=((b/2048%4:Nat):Int):=by rw[<-v5];simp
 rw[<-s]at t;obtain⟨r,n⟩:=y (b/2048%4);rw[<-n]at t a;rw[<-wb]at a;clear l n q k s;by_cases h:d=0
 . subst h;have e:Hid (g=c.mode):=pH;clear a;go_enter func332,ntmps332;exact pu
 . have B:(d !=0)=true:=ni;rw[z (by simp[h])]at a;cases f:ab b 17 with
   |true=>
    rw[f]at i a;have e:Hid (g=r):=pH;clear a f h;go_enter func332,ntmps332;go_wp2_with fail;go_ret;exact⟨by rw[e.out]<;>rfl,rfl⟩
   |false=>
    rw[f]at i a;have e:Hid (g=c.mode):=pH;clear a f h;go_enter func332,ntmps332;go_wp2_with fail;go_ret;exact⟨by rw[e.out]<;>rfl,rfl⟩
def mq (b:Bool)(a:Nat):Nat:=if a=0 then 8 else if a=2 then 4 else if b=true then 10 else 2
def ahD (k t:Nat)(c:N)(r:G c.c.V5)(a:Nat)(o)(s:Hid (E o k t c)):
 O 379 #[I k,j a] (j (mq (ab c.c.V5 19) a)) o:=by
 have q:=s.out.Xm;obtain⟨b,i⟩:=y (c.c.V5);rw[<-i]at q r|-;have l:bits .and .i64 (b:Int) 524288=((b&&&524288:Nat):Int):=bm b 524288 m m;have n:=fh (b&&&524288);have g:decide (b&&&524288=0)=!ab b 19:=dj b 19;rw[g,q9,<-l]at n;obtain⟨d,h⟩:=y (ab b 19);rw[<-h]at n|-;clear i g l h;by_cases e:a=0
 . subst e;exact Js
 . have v:((a:Int)==0)=false:=M;have u:(a==0)=false:=M;by_cases f:a=2
   . subst f;exact Js
   . have w:((a:Int)==2)=false:=M;have p:Hid (mq d a=if d=true then 10 else 2):=by show _=_;unfold mq;rw[z e,z f]
     clear e f;cases d;all_goals
      go_enter func379,ntmps379;go_wp2_with fail;go_ret;exact⟨eM (by rw[p.out];rfl),rfl⟩
def T6 (a b:Nat)(h:b=0\/b=1\/b=2)(c:Bool):(!decide (a&&&mq c b=0))=(if b=0 then ab a 3 else if b=1 then(if ab a 1=true then true else if c=true then ab a 3 else false)else ab a 2):=by
 have g:decide (a&&&8=0)=!ab a 3:=dj a 3;have f:decide (a&&&4=0)=!ab a 2:=dj a 2;have e:decide (a&&&2=0)=!ab a 1:=dj a 1;have d:=Ed a;rcases h with rfl|rfl|rfl
 . show(!decide (a&&&8=0))=_;rw[g];simp
 . cases c
   . show(!decide (a&&&2=0))=_;rw[e];cases ab a 1<;>rfl
   . show(!decide (a&&&10=0))=_;rw[d];cases ab a 1<;>cases ab a 3<;>rfl
 . show(!decide (a&&&4=0))=_;rw[f];simp
def T5 (a:Bool)(b:Nat):mq a b<16:=by
 unfold mq;repeat' split
 all_goals omega
def Fu (i C:Nat)(e:N)(u:G e.c.V5)(b mode c:Nat)(T:G b)(L:mode=0\/mode=1)(K:c=0\/c=1\/c=2)(n)(v:Hid (E n i C e)):
 O 334 #[I i,j b,j mode,j c] (.bool (g5 (S e) b c mode)) n:=by
 have J:=v.out.Xm;have o:=l (ahD i C e u c n v);have w:bits .and .i64 (b:Int) 16=((b&&&16:Nat):Int):=bm b 16 m m;have x:=fh (b&&&16);rw[aaq,q9,<-w]at x;obtain⟨g,a⟩:=y (g5 (S e) b c mode);rw[<-a];unfold g5 Be S at a;dsimp only at a;obtain⟨d,s⟩:=y (e.c.V5);rw[<-s]at J o a u;have D:bits .and .i64 (d:Int) 262144=((d&&&262144:Nat):Int):=bm d 262144 m m;have Q:(bits .and .i64 (d:Int) 262144==0)=!ab d 18:=by
  rw[D,<-dj d 18];by_cases q:d&&&2^18=0<;>simp[q]<;>exact q
 obtain⟨F,hu⟩:=y (ab b 4);obtain⟨R,h⟩:=y (ab d 18);rw[<-wb,<-wb,<-hu,<-h]at a;rw[<-hu]at x;rw[<-h]at Q;have k:=T6 b c K (ab d 19);have P:=T5 (ab d 19) c;obtain⟨z,t⟩:=y (mq (ab d 19) c);rw[<-t]at k P o;have A:=bm b z m m;have B:=fh (b&&&z);rw[<-A,k]at B;obtain⟨H,r⟩:=y ((if c=0 then ab b 3 else if c=1 then(if ab b 1=true then true else if ab d 19=true then ab b 3 else false)else ab b 2));rw[<-r]at B a;clear w s D hu h t A r k;rcases L with rfl|rfl
 . cases F
   . exact Jt
   . exact Ju
 . cases F
   . exact Ju
   . by_cases p:c=0
     . subst p;exact Jt
     . have U:((c:Int)==0)=false:=M;cases R
       . have f:Hid (g=false):=AK;exact Jv
       . have f:Hid (g=H):=by rw[a];show _=_;simp[p]
         exact Jv
def cs (a:P)(b:Nat):Nat×Nat:=
 if a1 (b:Nat) 4 a.o.length=false then(0,2)
 else if ab (bB a b) 0=false\/(ab (bB a b) 2=true/\ab (bB a b) 1=false)then(0,1)
 else(bB a b,0)
def eV (a:Nat):((a:Int)==0)=decide (a=0):=by by_cases b:a=0<;>simp[b]
theorem aiX (i r:Nat)(c:N)(t:c.b.o.length<=65536)(b:Nat)(C:b<68719476736)(k)(u:Hid (E k i r c)):
 O 376 #[I i,j b] (.tuple #[j (cs c.b b).1,j (cs c.b b).2]) k:=by
 have f:Hid (O 262 #[I i,j b,j 4] (.bool (a1 b 4 c.b.o.length)) k):=l (oq i r c t b 4 m m m m k u);unfold cs;cases o:a1 (b:Nat) 4 c.b.o.length with
 |false=>
  rw[o]at f;rw[B rfl];clear o;go_enter func376,ntmps376;go_wp2_with(go_at_call 262;refine f.out.mono ?_;rintro a e ⟨rfl,rfl⟩);go_ret2;exact⟨rfl,rfl⟩
 |true=>
  rw[o]at f;rw[z (by simp)];obtain⟨h,d⟩:=jR o;have n:Hid (O 263 #[I i,j b,j 4] (j (bB c.b b)) k):=l (tK i r c t b (b-2147483648) 4 m m m d k u);have A:=nF c.b b;obtain⟨a,s⟩:=y (bB c.b b);rw[<-s]at n A|-;have v:bits .and .i64 (a:Int) 1=((a&&&1:Nat):Int):=bm a 1 m m;have q:=eV (a&&&1);rw[aap,<-v]at q;have w:bits .and .i64 (a:Int) 6=((a&&&6:Nat):Int):=bm a 6 m m;have p:(bits .and .i64 (a:Int) 6==4)=(ab a 2&&!ab a 1):=by
   rw[w,<-aas];by_cases x:a&&&6=4<;>simp[x];omega
  clear v w o s h d;cases g:ab a 0 with
  |false=>
   rw[g]at q;rw[B (.inl rfl)];clear g;go_enter func376,ntmps376;go_wp2_with(first|(go_at_call 262;refine f.out.mono ?_;rintro a e ⟨rfl,rfl⟩)|(go_at_call 263;refine n.out.mono ?_;rintro a e ⟨rfl,rfl⟩));go_ret2;exact⟨rfl,rfl⟩
  |true=>
   rw[g]at q;cases d:ab a 2 with
   |false=>
    rw[d]at p;rw[z (by simp)];clear g d;go_enter func376,ntmps376;go_wp2_with(first|(go_at_call 262;refine f.out.mono ?_;rintro a e ⟨rfl,rfl⟩)|(go_at_call 263;refine n.out.mono ?_;rintro a e ⟨rfl,rfl⟩));go_ret2;exact⟨rfl,rfl⟩
   |true=>
    rw[d]at p;cases h:ab a 1 with
    |false=>
     rw[h]at p;rw[B (.inr ⟨rfl,rfl⟩)];clear g d h;go_enter func376,ntmps376;go_wp2_with(first|(go_at_call 262;refine f.out.mono ?_;rintro a e ⟨rfl,rfl⟩)|(go_at_call 263;refine n.out.mono ?_;rintro a e ⟨rfl,rfl⟩));go_ret2;exact⟨rfl,rfl⟩
    |true=>
     rw[h]at p;rw[z (by simp)];clear g d h;go_enter func376,ntmps376;go_wp2_with(first|(go_at_call 262;refine f.out.mono ?_;rintro a e ⟨rfl,rfl⟩)|(go_at_call 263;refine n.out.mono ?_;rintro a e ⟨rfl,rfl⟩));go_ret2;exact⟨rfl,rfl⟩
theorem xF :∀(a:List L) (b:Nat),C.sum a b<=33554432*a.length
 |[],_=>by simp[C.sum]
 |c::a,b=>by
  have e:=xF a (b/2)
  simp only[C.sum,c9]
  cases d:C.isLet c with
  |false=>simp;omega
  |true=>
   simp only[C.isLet,cX,cC]at d
   have f:2^(c.toNat-97)<=2^25:=cY (by decide) (by omega)
   have g:b%2*2^(c.toNat-97)<=1*2^(c.toNat-97):=j7 _ (by omega)
   simp only[cv];omega
theorem wC :∀(b:List L),C.high b<=33554432
 |[]=>by simp[C.high]
 |c::b=>by
  have d:=wC b
  cases a:C.isLet c with
  |false=>simp only[C.high,a,bi];exact d
  |true=>
   simp only[C.high,a,cv]
   simp only[C.isLet,cX,cC]at a
   have e:2^(c.toNat-97)<=2^25:=cY (by decide) (by omega)
   omega
def da (a:K)(b:Bool)(W:Nat):Int:=C.kO (C.ah a.data.toList a.size) b W
def afv (p:Nat)(a:p<=2147483648):wrap64 (p:Int)=p:=by unfold wrap64;omega
def wrap_add (a b:Nat)(c:a+b<=2147483648):wrap64 ((a:Int)+(b:Int))=(a:Int)+b:=by unfold wrap64;omega
def RG {a:L}{b:List L}{c h i e d p:Nat}(k:C.isLet a=true)(l:Hid (p=2^(a.toNat-97)))(j:Hid (h+C.sum (a::b) c=e/\max i (C.high (a::b))=d)):
 Hid (h+c%2*p+C.sum b (c/2)=e/\max (max i p) (C.high b)=d):=by
 obtain⟨f,g⟩:=j.out;simp only[C.sum,C.high,k,cv]at f g;rw[<-l.out]at f g;exact⟨by omega,by omega⟩
def RH {b:L}{a:List L}{i g h d c:Nat}(k:C.isLet b=false)(j:Hid (g+C.sum (b::a) i=d/\max h (C.high (b::a))=c)):
 Hid (g+C.sum a (i/2)=d/\max h (C.high a)=c):=by
 obtain⟨e,f⟩:=j.out;simp only[C.sum,C.high,k,bi,eh]at e f;exact⟨e,f⟩
def T8 {n:Nat}(b:n<=25):wrap64 (2^n)=((2^n:Nat):Int)/\2^n<=33554432/\1<=2^n:=by
 have d:2^n<=2^25:=cY R b;have c:1<=2^n:=pG;have a:((2:Int)^n)=((2^n:Nat):Int):=bN;refine⟨?_,by omega,c⟩;rw[a];unfold wrap64;omega
theorem QZ (a:K)(ao:a.size<=32)(s:Bool)(W:Nat)(aa:G W)(af:D):
 O 300 #[.string a,.bool s,j W] (j (da a s W)) af:=by
 obtain⟨l,w⟩:=y (C.sum (C.ah a.data.toList a.size) W);obtain⟨o,v⟩:=y (C.high (C.ah a.data.toList a.size));have am:l<=1073741824:=by
  have:=xF (C.ah a.data.toList a.size) W;rw[C.jk _ _ (by simp),<-w]at this;omega
 have al:o<=33554432:=by rw[v];exact wC _
 have x:Hid (da a s W=if s=true/\o<=l then(l:Int)-2* (o:Int)else(l:Int)):=by rw[w,v];rfl
 have X:Hid (l=C.sum (C.ah a.data.toList a.size) W):=w;have U:Hid (o=C.high (C.ah a.data.toList a.size)):=v;clear w v;go_enter func300,ntmps300;go_wp2;go_loop [2,7,8,9] (fun ag ad ae H=>∃n c d b:Nat,n<=a.size/\c<4294967296/\H=j ((n:Int)-1)/\ag=j c/\ad=j d/\ae=j b/\
  Hid (d+C.sum (C.ah a.data.toList n) c=l/\max b (C.high (C.ah a.data.toList n))=o)) (fun _ _ _ H=>(intOf H+1).toNat)
 case atStart=>exact⟨a.size,W,0,0,aB _,aa,rfl,rfl,rfl,rfl,⟨by rw[<-X.out];omega,by rw[<-U.out];omega⟩⟩
 case round=>
  obtain⟨n,c,d,b,an,ap,rfl,rfl,rfl,rfl,f⟩:=hrel;have aj:d<=1073741824:=by have:=f.out.1;omega
  have ak:b<=33554432:=by have:=f.out.2;omega
  cases n with
  |zero=>
   obtain⟨Q,S⟩:=f.out;simp only[C.qq,C.sum,C.high,dl,Nat.max_zero]at Q S;subst Q;subst S;clear f;cases s with
   |false=>
    go_wp2;go_ret;exact⟨congrArg (fun t=>Ending.returned (j t)) (by rw[x.out];simp),rfl⟩
   |true=>
    by_cases L:b<=d
    . go_wp2;go_ret;exact⟨congrArg (fun t=>Ending.returned (j t)) (by rw[x.out,B (by simpa using L)]),rfl⟩
    . have ai:decide ((b:Int)<=d)=false:=yZ;go_wp2;go_ret;exact⟨congrArg (fun t=>Ending.returned (j t)) (by rw[x.out,z (fun Y=>L Y.2)]),rfl⟩
  |succ i=>
   have u:((i+1:Nat):Int)-1=(i:Int):=J;rw[u];have ab:i<a.size:=J;rw[iE a i ab]at f;by_cases q:C.isLet a[i]=true
   . have c1:97<=a[i].toNat/\a[i].toNat<=122:=by simpa[C.isLet]using q
     obtain⟨c1,c2⟩:=c1;obtain⟨F,M,ac⟩:=T8 (n:=a[i].toNat-97) m;obtain⟨p,E⟩:=y (2^(a[i].toNat-97));rw[<-E]at F M ac;have V:Hid (p=2^(a[i].toNat-97)):=E;clear E;have e:=RG q V f;have A:d+c%2*p<=1073741824:=by have:=e.out.1;omega
     have P:=afv p (fE M R);have g:Hid (wrap64 (2^(a[i].toNat-97))=(p:Int)):=F;have ah:Hid (wrap64 (p:Int)=p):=P;clear P F;clear f;rcases gh c with r|r
     . have Z:bits BinOp.and IntKind.i64 (c:Int) 1=0:=vG;rw[r]at e A;clear r;go_wp2_with(go_at_call 216;refine(p0 _ _).mono ?_;rintro u I ⟨rfl,rfl⟩)
       . have k:(b:Int)<wrap64 (2^(a[i].toNat-97)):=g1;rw[g.out]at k;have h:b<=p:=J;go_round;case rel=>exact⟨i,c/2,d,p,by omega,by omega,by go_num,by go_num,rfl,congrArg (Value.int .i64) g.out,by simpa[q0 h]using e⟩
         case measure=>exact dF
       . have k:wrap64 (2^(a[i].toNat-97))<=(b:Int):=g1;rw[g.out]at k;have h:p<=b:=J;go_round;case rel=>exact⟨i,c/2,d,b,by omega,by omega,by go_num,by go_num,rfl,rfl,by simpa[q1 h]using e⟩
         case measure=>exact dF
     . have Z:bits BinOp.and IntKind.i64 (c:Int) 1=1:=vG;rw[r]at e A;clear r;have N:=wrap_add d p (fE (by simpa using A) R);have T:Hid (wrap64 ((d:Int)+(p:Int))=(d:Int)+p):=N;clear N;go_wp2_with(go_at_call 216;refine(p0 _ _).mono ?_;rintro u I ⟨rfl,rfl⟩)
       . have k:(b:Int)<wrap64 (2^(a[i].toNat-97)):=g1;rw[g.out]at k;have h:b<=p:=J;go_round;case rel=>exact⟨i,c/2,d+p,p,by omega,by omega,by go_num,by go_num,congrArg (Value.int .i64) F2,congrArg (Value.int .i64) g.out,by simpa[q0 h]using e⟩
         case measure=>exact dF
       . have k:wrap64 (2^(a[i].toNat-97))<=(b:Int):=g1;rw[g.out]at k;have h:p<=b:=J;go_round;case rel=>exact⟨i,c/2,d+p,b,by omega,by omega,by go_num,by go_num,congrArg (Value.int .i64) F2,rfl,by simpa[q1 h]using e⟩
         case measure=>exact dF
   . have q:C.isLet a[i]=false:=by simpa using q
     have e:=RH q f;clear f;go_wp2_with(go_at_call 216;refine(p0 _ _).mono ?_;rintro u I ⟨rfl,rfl⟩);exact Jg
def nU (a:Q)(b:Nat)(wr:Bool):Bool:=
 if eW b=true then(if decide (a.mode<b/256%4)=true then false else if(wr&&decide (b/1024=3))=true then false else if(decide (b=384)&&decide (a.mode=1)&&decide (a.WL=1))=true then false
  else if decide (b/256=12)=true then(if(decide (a.mode<3)&&decide (a.Wp/2^(b%32)%2=0))=true then false else if(decide (a.mode<1)&&decide (a.WA/2^(b%32)%2=0))=true then false else true)else true)
 else false
def acx (z aa:Nat)(b:Q)(g:ay b)(a:Nat)(ao:a<=4095)(wr:Bool)(i:D)(c:Hid (T i z aa b)):
 O 429 #[I z,j a,.bool wr] (.bool (nU b a wr)) i:=by
 have d:=l (xN a m m i);have e:=l (e7 b.Wp (a%32) g.Wp m);have k:=l (e7 b.WA (a%32) g.WA m);have c1:=c.out.c1;have al:=c.out.XO;have am:=c.out.Yg;have an:=c.out.Yk;unfold nU;have d1:(a:Int).tdiv 256=((a/256:Nat):Int):=sQ a 256;have d2:((a/256:Nat):Int).tmod 4=((a/256%4:Nat):Int):=iy _ 4;have d3:(a:Int).tdiv 1024=((a/1024:Nat):Int):=sQ a 1024;have d4:(a:Int).tmod 32=((a%32:Nat):Int):=iy a 32;have h:decide ((b.mode:Int)< ((a/256%4:Nat):Int))=decide (b.mode<a/256%4):=yX;have L:(((a/1024:Nat):Int)==3)=decide (a/1024=3):=l3 _ 3;have ad:((a:Int)==384)=decide (a=384):=l3 _ 384;have M:((b.mode:Int)==1)=decide (b.mode=1):=l3 _ 1;have ae:((b.WL:Int)==1)=decide (b.WL=1):=l3 _ 1;have N:(((a/256:Nat):Int)==12)=decide (a/256=12):=l3 _ 12;have P:decide ((b.mode:Int)<3)=decide (b.mode<3):=yX;have R:(((b.Wp/2^(a%32)%2:Nat):Int)==0)=decide (b.Wp/2^(a%32)%2=0):=l3 _ 0;have S:decide ((b.mode:Int)<1)=decide (b.mode<1):=yX;have K:(((b.WA/2^(a%32)%2:Nat):Int)==0)=decide (b.WA/2^(a%32)%2=0):=l3 _ 0;have U:decide (b.mode<a/256%4)=decide (b.mode<a/256%4):=rfl;have ab:a/256<=16:=J;have ac:a/1024<=16:=J;obtain⟨Y,o⟩:=y (eW a);rw[<-o]at d|-;obtain⟨n,f⟩:=y (decide (b.mode<a/256%4));rw[<-f]at h U|-;obtain⟨Z,q⟩:=y (decide (a/1024=3));rw[<-q]at L|-;obtain⟨ai,r⟩:=y (decide (a=384));rw[<-r]at ad|-;obtain⟨aj,s⟩:=y (decide (b.mode=1));rw[<-s]at M|-;obtain⟨ak,t⟩:=y (decide (b.WL=1));rw[<-t]at ae|-;obtain⟨af,u⟩:=y (decide (a/256=12));rw[<-u]at N|-;obtain⟨ag,v⟩:=y (decide (b.mode<3));rw[<-v]at P|-;obtain⟨ah,w⟩:=y (decide (b.Wp/2^(a%32)%2=0));rw[<-w]at R|-;obtain⟨X,x⟩:=y (decide (b.mode<1));rw[<-x]at S|-;obtain⟨W,p⟩:=y (decide (b.WA/2^(a%32)%2=0));rw[<-p]at K|-;have V:decide (b.mode<a/256%4)=n:=f.symm;clear o f q r s t u v w x p U g c;obtain⟨aw,G⟩:=y (b.Wp/2^(a%32)%2);rw[<-G]at e R;obtain⟨av,F⟩:=y (b.WA/2^(a%32)%2);rw[<-F]at k K;obtain⟨au,E⟩:=y (a/256%4);rw[<-E]at d2 h V;obtain⟨aq,B⟩:=y (a/256);rw[<-B]at d1 d2 N ab;obtain⟨ap,A⟩:=y (a/1024);rw[<-A]at d3 L ac;obtain⟨ar,C⟩:=y (a%32);rw[<-C]at d4 e k;obtain⟨ax,H⟩:=y (b.mode);rw[<-H]at c1 h M P S V;clear G F E B A C H;cases Y
 . exact pA
 . cases n
   . cases wr
     . exact JW
     . cases Z
       . exact JW
       . exact pA
   . exact pA
def acK (c:Nat)(a:Int)(b:a<0\/4096<a)(e:D):
 O 161 #[I c,j a] (.tuple #[j 0,j 2]) e:=by
 rcases b with b|b
 . have d:decide (a<0)=true:=g0;exact LG
 . have d:decide (a<0)=false:=M;have f:decide (a>4096)=true:=M;exact LG
def acs (a:Nat)(b:D):
 O 166 #[I a] (.tuple #[]) b:=by
 go_enter func166,ntmps166;exact r1
def aey (m h o q n:Nat)(b:ai)(p:aT b.b)(c a:Int)(f:-9223372036854775808<=a)(g:a<=9223372036854775807)(i:c<0\/a<0\/(b.b.o.length:Int)<a\/(b.b.o.length:Int)-a<c)(e:D)(k:Hid (V e m h o q n b)):
 O 168 #[I m,j c,j a] (.tuple #[.string ⟨#[]⟩,j 2]) e:=by
 have r:=k.out.V8;have d:=l (ac3 h n b.b p c a f g i e (l k.out.Wt));clear i f g;exact LH
def aex (i f m o k:Nat)(a:ai)(n:aT a.b)(c b:Nat)(g:c+b<=a.b.o.length)(e:D)(h:Hid (V e i f m o k a)):
 O 168 #[I i,j c,j b] (.tuple #[.string (jf a.b.o c b),j 0]) e:=by
 have q:=h.out.V8;have d:=l (ac2 f k a.b n c b g e (l h.out.Wt));obtain⟨p,hS⟩:=y (jf a.b.o c b);rw[<-hS]at d|-;clear g hS;exact LH
def dt (b:List L):List Value:=b.map fun a=>.int .u8 (a.toNat:Int)
theorem E.laid {h f:Nat}:∀(c:List L) (a:Nat) {b:N} {d:D},E d h f b->a+c.length<=b.b.o.length->E (d.setCells f a (dt c)) h f (bZ b (laidB b.b.o a c))
 |[],a,b,d,e,_=>e
 |i::c,a,b,d,e,g=>by
  have j:=e.Xn a (by simp at g;omega) i
  have k:=E.laid c (a+1) j (by simp at g|-;omega)
  exact k
theorem wP :∀(a r:List L) (p:Nat),p+a.length=r.length->laidB r p a=r.take p++a
 |[],r,p,b=>by simp at b;simp[laidB,b]
 |c::a,r,p,b=>by
  simp at b
  have:=wP a (r.set p c) (p+1) (by simp;omega)
  simp only[laidB]
  rw[this,FE (by simp;omega)]
  simp[List.take_set_of_le]
def Ce :(prog.info? 77).map (·.size)=some 71:=by kernel_rfl
def wI :(prog.info? 5).map (·.size)=some 1:=by kernel_rfl
def vZ (b:D)(a:Array Value)(c:Nat):(b.alloc (.cells a c)).there b.heap.size 0 a.size:=by
 intro e d;constructor
 . simp[d]
 . simp
def PA {a r b c}(f:E a r b c)(d:Array Value)(e:Nat)(q:d.size=71):E ((a.alloc (.cells d e)).setCells a.heap.size 0 (ct b c)) a.heap.size b c:=by
 have p:=vZ a d e;have o:=j9 (a.alloc (.cells d e)) a.heap.size 0 (ct b c) (by rw[om,<-q];exact p);have h:Kept [] a ((a.alloc (.cells d e)).setCells a.heap.size 0 (ct b c)):=Kept.Xh _ (.inr (aB _)) _ _ _ ((Kept.refl _ _).alloc _);have j:=f.Ww;refine⟨fun l n=>?_,fun g=>?_,?_,fun k m=>?_,fun g=>?_,?_,?_⟩
 . have i:l< (ct b c).length:=by rw[om];exact n
   have:=o l _ (fa i);rw[eh]at this;rw[this,fa i]
 . rw[tX];simp
 . rw[my];simp
 . rw[h.cell (p:=⟨b,k,none⟩) j (by simp)];exact f.o k m
 . rw[h.frozen (p:=⟨b,g,none⟩) j (by simp)];exact f.XA g
 . rw[my];simp;omega
 . omega
def afu {o:Array Oper}{rest:List Oper}{d:Oper}{c:Act}{a:D}{l:Exit->Act->D->Prop}{x e:Nat}{b:N}{g:Array Value}{h:Nat}(p:E a x e b)(n:g.size=71)(r:d.guard=none)(i:TypeId)(j k:Operand)(u:d.op=.store i j k)(m:List Value)(q:m=ct e b)
 (v:c.eval j=I a.heap.size) (w:c.eval k=.agg m.toArray) (s:(prog.info? i).map (·.size)=some 71)
 (t:∀f,E f a.heap.size e b->Kept [] a f->f.heap.size=a.heap.size+1->wpList prog o l rest (c.put d.dst undef) f):wpList prog o l (d::rest) c (a.alloc (.cells g h)):=by
 subst q;refine gl r i j k u a.heap.size 0 (ct e b).toArray v w ?_ s ?_ ?_
 . show World.there _ _ _ 71;rw[<-n];exact vZ a g h
 . simp[ct,Value.oneCell']
 . exact t _ (PA p g h n) (Kept.Xh _ (.inr (aB _)) _ _ _ ((Kept.refl _ _).alloc _)) (by rw[my];simp)
theorem UK {c b o i}(g:E c b o i)(a k:Nat):E ((c.setCell ⟨b,0,none⟩ (.slice (some ⟨c.heap.size,0,none⟩) a a)).alloc (.cells (madeCells #[.int .u8 0] a) k)) b c.heap.size (bZ i (List.replicate a 0)):=by
 have u:=g.lt;have j:(c.setCell ⟨b,0,none⟩ (.slice (some ⟨c.heap.size,0,none⟩) a a)).heap.size=c.heap.size:=by simp[World.setCell]
 have l:al (c.setCell ⟨b,0,none⟩ (.slice (some ⟨c.heap.size,0,none⟩) a a)) b 0 (.slice (some ⟨c.heap.size,0,none⟩) a a):=jv _ _ _ g.V8;have m:∀d,d+1<71->(c.setCell ⟨b,0,none⟩ (.slice (some ⟨c.heap.size,0,none⟩) a a)).cell? ⟨b,d+1,none⟩=(ct o i)[d+1]?:=fun d h=>by rw[b0 _ _ _ _ (by simp),g.cell (d+1) h]
 have n:dY (c.setCell ⟨b,0,none⟩ (.slice (some ⟨c.heap.size,0,none⟩) a a)) b:=fun e=>by rw[lo];exact g.Wb e
 generalize c.setCell ⟨b,0,none⟩ (.slice (some ⟨c.heap.size,0,none⟩) a a)=f at j l m n;have h:Kept [] f (f.alloc (.cells (madeCells #[.int .u8 0] a) k)):=(Kept.refl [] f).alloc _;rw[<-j];have q:¬b=f.heap.size:=J;refine⟨fun d s=>?_,fun e=>?_,?_,fun t r=>?_,fun e=>?_,?_,q⟩
 . rw[h.cell (p:=⟨b,d,none⟩) (by show b<_;omega) (by simp)];cases d with
   |zero=>rw[l];simp[ct,bZ,j]
   |succ d=>rw[m d s];rfl
 . rw[h.frozen (p:=⟨b,e,none⟩) (by show b<_;omega) (by simp)];exact n e
 . simp;omega
 . have p:t<a:=by simpa[bZ]using r
   simp[madeCells,p,q3,bZ]
 . simp
 . simp
def ja (a:List L):(dt a).length=a.length:=by simp[dt]
def afR (q j:Nat)(c:N)(X:c.b.o.length<=65536)(b)(p:Hid (E b q j c)):
 Calls prog 31 #[I q] b fun Y D=>Y=.returned (I b.heap.size)/\E D b.heap.size (b.heap.size+1) c/\Kept [] b D:=by
 have ae:=p.out.lt;have ag:=p.out.Ww;have Z:¬q=b.heap.size:=J;have HR:=l (p.out.range);have O:(ct j c).toArray.size=71:=rfl;obtain⟨R,L,Q,e,k⟩:=hy Tryz.Yu;obtain⟨a,f⟩:=y (c.b.o.length);rw[<-f]at X;have af:∀b,(Instr.makeSlice 64 (.int .i64 (a:Int)) (.int .i64 (a:Int))).run prog b=.ok (.slice (some ⟨b.heap.size,0,none⟩) a a) (b.alloc (.cells (madeCells #[.int .u8 0] a) 5)):=by
  intro b;have H:=uh (P:=prog) b 64 5 R (.int .u8 0) gQ L Q .i64 .i64 a a m (ju _) uv uw m;rw[e]at H;simpa[Value.cells]using H
 clear L Q e k R;go_enter func31,ntmps31;go_upto_region 1 with fail;refine gj ?_;refine wpList_plain rfl (fun n g=>?_);go_simp;refine g _ _ ?_;clear g n;refine wpList_plain rfl (fun n g=>?_);go_simp;refine g _ _ ?_;clear g n;obtain⟨G,v⟩:=y (ct j c);rw[<-v]at HR O;have u:=l v;clear v;refine ra rfl _ _ rfl q 0 (by rfl) G _ HR.out Tryz.underlying77 rfl (by rw[Ce,u.out];rfl) ?_;refine wpList_plain rfl (fun n g=>?_);go_simp;refine g _ _ ?_;clear g n;refine afu p.out (by rfl) rfl _ _ _ rfl G u.out rfl rfl Ce (fun d s x A=>?_);refine gm ?_;clear u HR O;have C:=p.out.kept x;have V:=C.V8;have d0:=s.V8;rw[<-f]at V d0;have ab:=s.Wb;have ac:b.heap.size<d.heap.size:=J;have i:=UK s a 5;have r:E ((d.setCell ⟨b.heap.size,0,none⟩ (.slice (some ⟨d.heap.size,0,none⟩) a a)).alloc (.cells (madeCells #[.int .u8 0] a) 5)) q j c:=(E.more C (G:=[b.heap.size]) ((Kept.refl _ _).setCell (.inl F) _) ad ad).alloc _;have z:Kept [] b ((d.setCell ⟨b.heap.size,0,none⟩ (.slice (some ⟨d.heap.size,0,none⟩) a a)).alloc (.cells (madeCells #[.int .u8 0] a) 5)):=(x.setCell (.inr (aB _)) _).alloc _;obtain⟨w3,B⟩:=y ((d.setCell ⟨b.heap.size,0,none⟩ (.slice (some ⟨d.heap.size,0,none⟩) a a)).alloc (.cells (madeCells #[.int .u8 0] a) 5));rw[<-B]at i r z;have o:(bZ c (List.replicate a 0)).b.o.length=a:=by simp[bZ]
 have aa:(Builtin.copy_ #[64,64] 3 #[.slice (some ⟨d.heap.size,0,none⟩) a a,.slice (some ⟨j,0,none⟩) a a]).run prog w3.drew=.ok (.int .i64 a) (w3.drew.setCells d.heap.size 0 (dt c.b.o)):=by
  have:=yu (P:=prog) w3.drew 64 64 3 5 d.heap.size 0 a a ⟨j,0,none⟩ a a (dt c.b.o) gQ wI (by rw[ja,<-f];exact(Nat.min_self a).symm) ?_ ?_ ?_ ?_
  . rw[this,ja,<-f];rfl
  . intro t ah P;have h:=(oF.1 P).1;rw[ja]at h;rw[ui,eh,r.drew.o t h,<-P];simp[dt,h]
  . intro t h;rw[ja,<-f]at h;rw[eh,i.drew.o t (by rw[o];exact h)];rfl
  . intro t _;exact i.drew.XA _
  . exact LM
 have w:E (w3.drew.setCells d.heap.size 0 (dt c.b.o)) b.heap.size d.heap.size c:=by
  have K:=E.laid c.b.o 0 i.drew (by rw[o,<-f];omega);rw[wP c.b.o _ 0 (by rw[o,<-f];omega)]at K;exact K
 have M:Kept [] b (w3.drew.setCells d.heap.size 0 (dt c.b.o)):=Kept.Xh _ (.inr m) _ _ _ z.drew;rw[A]at w;have S:=l w;have T:=l M;have W:=r.V8;have f3:=i.V8;rw[<-f]at W;rw[o]at f3;clear i r z o w M;clear s C;have U:=l A;clear A f x;go_upto_region 3 with fail;rw[<-B];clear B;go_region;all_goals
  go_wp2_with fail;go_ret;exact⟨rfl,by rw[U.out];exact S.out,T.out⟩
end Go.Proofs.YtmlgonbhoknoiaaGreatDoor
