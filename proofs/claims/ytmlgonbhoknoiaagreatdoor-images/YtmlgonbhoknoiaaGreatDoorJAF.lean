import Derived.Test.YtmlgonbhoknoiaaGreatDoorJAD
set_option maxHeartbeats 8000000
set_option maxRecDepth 100000
set_option linter.all false
namespace Go.Proofs.YtmlgonbhoknoiaaGreatDoor
open Go.RowKit Go.Proofs.Tryz
def eP (a:P)(b:Int)(c:Nat):P:=
 if b=33554432 then{a with Wj:=c%2}else if b=33570816 then{a with cmp:=c}else if b=33570820 then{a with Wv:=c}else if b=33603576 then{a with time:=c}else if b=33603580 then{a with Wh:=c}
 else if b=268435456 then(if a.Wc.size<8 then{a with Wc:=a.Wc++strOfNums (b4 c 1)}else a)
 else if b=268435457 then{a with enable:=c%8}else if b=268435463 then{a with Wr:=c%256}else a
def ch (a:P)(b c:Int)(d:Nat):P:=if a1 b c a.o.length=true then{a with o:=bu a.o (b-2147483648).toNat c.toNat d}else if bF b c a.o.length=true then eP a b d else a
theorem xT (n q:Nat)(c:P)(N:aT c)(f e:Int)(Z:-1099511627776<=f)(ab:f<=1099511627776)(X:-1024<=e)(Y:e<=1024)(b:Nat)(ag:G b)(k:D)(a:Hid (ap k n q c)):
 Calls prog 428 #[I n,j f,j e,j b] k fun h L=>h=.returned (.tuple #[])/\ap L n q (ch c f e b)/\Kept [n,q] k L:=by
 have S:=a.out.V8;cases hd:a1 f e c.o.length with
 |true=>
  have h:ch c f e b={c with o:=bu c.o (f-2147483648).toNat e.toNat b}:=by unfold ch;rw[B hd]
  rw[h];unfold a1 at hd;simp only[cC]at hd;have ae:e=(e.toNat:Int):=J;have U:=EE n q c N f (f-2147483648).toNat e.toNat m m m m b ag k a;rw[<-ae]at U;exact U.mono fun h L o=>⟨o.1,o.2.1,o.2.2.mono F⟩
 |false=>
  have o:=iM n q f e Z ab X Y c.o.length N.o k S;have t:=tw n q f e Z ab X Y c.o.length N.o k S;rw[hd]at o;cases r:bF f e c.o.length with
  |false=>
   have h:ch c f e b=c:=by unfold ch;rw[z (by rw[hd];decide),z (by rw[r];decide)]
   rw[h];rw[r]at t;have u:=l o;have v:=l t;clear o t hd r h;go_enter oB,oC;go_wp2_with fail;refine u.out.mono ?_;rintro h s ⟨rfl,rfl⟩;go_wp2_with fail;refine v.out.mono ?_;rintro h s ⟨rfl,rfl⟩;go_wp2_with fail;refine ac (v:=.tuple #[]) FR rfl ⟨rfl,a.out,Kept.refl _ _⟩
  |true=>
   have h:ch c f e b=eP c f b:=by unfold ch;rw[z (by rw[hd];decide),B r]
   rw[h];have i:=xG hd r;rw[r]at t;have u:=l o;have v:=l t;clear o t hd r h;unfold eK ep at i;simp only[cC]at i;have ax:=a.out.Wb;have aA:=a.out.lt;by_cases ah:f=33554432
   . subst ah;have g:e=4:=J;subst g;clear i;have c1:=a.out.c1;have d:eP c 33554432 b={c with Wj:=b%2}:=kk;rw[d];clear d;have x:(b:Int).tmod 2=((b%2:Nat):Int):=iy b 2;obtain⟨A,w⟩:=y (b%2);rw[<-w]at x|-;have p:=l (a.out.Zb A);exact zC
   by_cases ai:f=33570816
   . subst ai;have g:e=4:=J;subst g;clear i;have c4:=a.out.c4;have d:eP c 33570816 b={c with cmp:=b}:=kk;rw[d];clear d;have p:=l (a.out.Yz b);exact rV
   by_cases aj:f=33570820
   . subst aj;have g:e=4:=J;subst g;clear i;have c5:=a.out.c5;have d:eP c 33570820 b={c with Wv:=b}:=kk;rw[d];clear d;have p:=l (a.out.Zc b);exact rV
   by_cases ak:f=33603576
   . subst ak;have g:e=4:=J;subst g;clear i;have c2:=a.out.c2;have d:eP c 33603576 b={c with time:=b}:=kk;rw[d];clear d;have p:=l (a.out.YO b);exact rV
   by_cases al:f=33603580
   . subst al;have g:e=4:=J;subst g;clear i;have c3:=a.out.c3;have d:eP c 33603580 b={c with Wh:=b}:=kk;rw[d];clear d;have p:=l (a.out.YP b);exact rV
   by_cases am:f=268435456
   . subst am;have g:e=1:=J;subst g;clear i;have T:=a.out.Xt;have E:=l (xW n c.Wc k T);by_cases H:c.Wc.size<8
     . have d:eP c 268435456 b={c with Wc:=c.Wc++strOfNums (b4 b 1)}:=by unfold eP;simp[H]
       rw[d];clear d;rw[bd H]at E;have V:Hid (∀W,aa 99 #[j b,j 1] (.string (strOfNums (b4 b 1))) W):=l (fun W=>qG b 1 m W);have af:(strOfNums (b4 b 1)).size=1:=by rw[oa,kR]
       obtain⟨M,O⟩:=y (strOfNums (b4 b 1));rw[<-O]at V af;simp only[<-O];obtain⟨C,Q⟩:=y (c.Wc++M);simp only[<-Q];have az:∀k,(Op.stringOp .add c.Wc M).run prog k=.ok (.string C) k:=fun k=>vY (a:=c.Wc) (b:=M) (c:=C) Q.symm m k;clear O Q;go_enter oB,oC;go_wp2_with fail;refine u.out.mono ?_;rintro h s ⟨rfl,rfl⟩;go_wp2_with fail;refine v.out.mono ?_;rintro h s ⟨rfl,rfl⟩;go_wp2_with fail;refine E.out.mono ?_;rintro h s ⟨rfl,rfl⟩;go_wp2_with fail;refine(V.out _).mono ?_;rintro h au ⟨rfl,R⟩;have K:=a.out.more (Below.kept R []) F F;have d10:=K.Xt;have ay:=K.Wb;have p:=l (K.YS C);have ad:Hid (Kept [n,q] s (au.setCell ⟨n,10,none⟩ (.string C))):=l ((Below.kept R [n,q]).setCell (.inl F) _);clear K R T;go_wp2_with fail;go_end0;exact⟨rfl,p.out,ad.out⟩
     . have d:eP c 268435456 b=c:=by unfold eP;simp[H]
       rw[d];clear d;rw[aV H]at E;go_enter oB,oC;go_wp2_with fail;refine u.out.mono ?_;rintro h s ⟨rfl,rfl⟩;go_wp2_with fail;refine v.out.mono ?_;rintro h s ⟨rfl,rfl⟩;go_wp2_with fail;refine E.out.mono ?_;exact IU
   by_cases an:f=268435457
   . subst an;have g:e=1:=J;subst g;clear i;have av:=a.out.W4;have d:eP c 268435457 b={c with enable:=b%8}:=kk;rw[d];clear d;have x:(b:Int).tmod 8=((b%8:Nat):Int):=iy b 8;obtain⟨A,w⟩:=y (b%8);rw[<-w]at x|-;have p:=l (a.out.Zd A);exact zC
   by_cases ao:f=268435458
   . subst ao;have g:e=1:=J;subst g;clear i;have d:eP c 268435458 b=c:=kk;exact IV
   by_cases aq:f=268435461
   . subst aq;have g:e=1:=J;subst g;clear i;have d:eP c 268435461 b=c:=kk;exact IV
   by_cases ar:f=268435463
   . subst ar;have g:e=1:=J;subst g;clear i;have aw:=a.out.W5;have d:eP c 268435463 b={c with Wr:=b%256}:=kk;rw[d];clear d;have x:(b:Int).tmod 256=((b%256:Nat):Int):=iy b 256;obtain⟨A,w⟩:=y (b%256);rw[<-w]at x|-;have p:=l (a.out.Ze A);exact zC
   exfalso;omega
def l3 (a b:Nat):((a:Int)==(b:Int))=decide (a=b):=by rw[dZ];simp;omega
def acG (c i:Nat)(a:Q)(b:Nat)(f:D)(k:Hid (T f c i a)):
 O 413 #[I c,j b] (.bool (if decide (b<3)=true then decide (2147483648<=a.Wf)else false)) f:=by
 have n:=k.out.X6;have l:decide ((b:Int)<3)=decide (b<3):=fJ;have m:decide (2147483648<=(a.Wf:Int))=decide (2147483648<=a.Wf):=fJ;obtain⟨g,d⟩:=y (decide (b<3));rw[<-d]at l|-;clear d;obtain⟨h,e⟩:=y (decide (2147483648<=a.Wf));rw[<-e]at m|-;clear e;cases g<;>cases h;all_goals
  go_enter func413,ntmps413;exact cn
def acP (b f:Nat)(a:Q)(d:D)(g:Hid (T d b f a)):
 O 449 #[I b] (.bool (decide (a.sum=1))) d:=by
 have i:=g.out.Xi;have h:((a.sum:Int)==1)=decide (a.sum=1):=fJ;obtain⟨e,c⟩:=y (decide (a.sum=1));rw[<-c]at h|-;clear c;cases e;all_goals
  go_enter func449,ntmps449;exact cn
def acF (b f:Nat)(a:Q)(d:D)(g:Hid (T d b f a)):
 O 450 #[I b] (.bool (decide (a.WT=1))) d:=by
 have i:=g.out.Xt;have h:((a.WT:Int)==1)=decide (a.WT=1):=fJ;obtain⟨e,c⟩:=y (decide (a.WT=1));rw[<-c]at h|-;clear c;cases e;all_goals
  go_enter func450,ntmps450;exact cn
def acz (b f:Nat)(a:Q)(d:D)(g:Hid (T d b f a)):
 O 432 #[I b] (.bool (decide (a.mode=3))) d:=by
 have c1:=g.out.c1;have h:((a.mode:Int)==3)=decide (a.mode=3):=fJ;obtain⟨e,c⟩:=y (decide (a.mode=3));rw[<-c]at h|-;clear c;cases e;all_goals
  go_enter func432,ntmps432;exact cn
def acA (b k:Nat)(a:Q)(g:D)(f:Hid (T g b k a)):
 O 433 #[I b] (.bool (if decide (a.mode=3)=true then true else if decide (a.mode=1)=true then decide (a.WX=0)else false)) g:=by
 have c1:=f.out.c1;have o:=f.out.X2;have l:((a.mode:Int)==3)=decide (a.mode=3):=fJ;have m:((a.mode:Int)==1)=decide (a.mode=1):=fJ;have n:((a.WX:Int)==0)=decide (a.WX=0):=fJ;obtain⟨h,c⟩:=y (decide (a.mode=3));rw[<-c]at l|-;clear c;obtain⟨i,d⟩:=y (decide (a.mode=1));rw[<-d]at m|-;clear d;obtain⟨j,e⟩:=y (decide (a.WX=0));rw[<-e]at n|-;clear e;cases h<;>cases i<;>cases j;all_goals
  go_enter func433,ntmps433;exact cn
def acB (b k:Nat)(a:Q)(g:D)(f:Hid (T g b k a)):
 O 434 #[I b] (.bool (if decide (a.mode=3)=true then true else if decide (a.mode=1)=true then decide (a.WS=0)else false)) g:=by
 have c1:=f.out.c1;have o:=f.out.X1;have l:((a.mode:Int)==3)=decide (a.mode=3):=fJ;have m:((a.mode:Int)==1)=decide (a.mode=1):=fJ;have n:((a.WS:Int)==0)=decide (a.WS=0):=fJ;obtain⟨h,c⟩:=y (decide (a.mode=3));rw[<-c]at l|-;clear c;obtain⟨i,d⟩:=y (decide (a.mode=1));rw[<-d]at m|-;clear d;obtain⟨j,e⟩:=y (decide (a.WS=0));rw[<-e]at n|-;clear e;cases h<;>cases i<;>cases j;all_goals
  go_enter func434,ntmps434;exact cn
def acy (b k:Nat)(a:Q)(g:D)(f:Hid (T g b k a)):
 O 435 #[I b] (.bool (if decide (a.mode=3)=true then true else if decide (a.mode=1)=true then decide (a.WL=0)else false)) g:=by
 have c1:=f.out.c1;have o:=f.out.XO;have l:((a.mode:Int)==3)=decide (a.mode=3):=fJ;have m:((a.mode:Int)==1)=decide (a.mode=1):=fJ;have n:((a.WL:Int)==0)=decide (a.WL=0):=fJ;obtain⟨h,c⟩:=y (decide (a.mode=3));rw[<-c]at l|-;clear c;obtain⟨i,d⟩:=y (decide (a.mode=1));rw[<-d]at m|-;clear d;obtain⟨j,e⟩:=y (decide (a.WL=0));rw[<-e]at n|-;clear e;cases h<;>cases i<;>cases j;all_goals
  go_enter func435,ntmps435;exact cn
def cx (a:Q)(b:Int):Nat:=if decide (b=0)=true then a.mode else if decide (a.WJ=1)=true then a.Wl else a.mode
def abI (d k:Nat)(a:Q)(b:Int)(g:D)(c:Hid (T g d k a)):
 O 412 #[I d,j b] (j (cx a b)) g:=by
 have c1:=c.out.c1;have n:=c.out.W5;have o:=c.out.Xj;unfold cx;have l:(b !=0)=!decide (b=0):=gX;have m:((a.WJ:Int)==1)=decide (a.WJ=1):=ij;obtain⟨h,e⟩:=y (decide (b=0));rw[<-e]at l|-;obtain⟨i,f⟩:=y (decide (a.WJ=1));rw[<-f]at m|-;clear e f;cases h<;>cases i;all_goals
  go_enter func412,ntmps412;exact cn
def acI (c g:Nat)(a:Q)(k:G a.Wf)(f:D)(h:Hid (T f c g a)):
 O 414 #[I c] (j ((a.Wf%4194304*4096:Nat):Int)) f:=by
 have l:=h.out.X6;have i:(a.Wf:Int).tmod 4194304=((a.Wf%4194304:Nat):Int):=iy a.Wf 4194304;obtain⟨b,d⟩:=y (a.Wf%4194304);have m:b<4194304:=J;rw[<-d]at i|-;have e:Hid (((b*4096:Nat):Int)=(b:Int)*4096):=ie;clear d;go_enter func414,ntmps414;exact pu
def fU (a:Q):Q:={a with held:=a.Xf,W6:=false,W7:=false}
def acN (c f:Nat)(a:Q)(d:D)(b:Hid (T d c f a)):
 Calls prog 235 #[I c] d fun h e=>h=.returned (.tuple #[])/\T e c f (fU a)/\Kept [c] d e:=by
 have i:=b.out.Ym;have k:=b.out.XJ;have n:=b.out.XC;have o:=b.out.Xm;have p:=b.out.Wb;have g:=l (((b.out.set (C':={a with held:=a.Xf}) 36 (j a.Xf) rfl m).set (C':={a with held:=a.Xf,W6:=false}) 37 (.bool false) rfl m).set (C':=fU a) 38 (.bool false) rfl m);go_enter func235,ntmps235;go_wp2_with fail;go_end0;exact⟨rfl,g.out,((p6 F).setCell (.inl F) _).setCell (.inl F) _⟩
def kD (a:Nat)(c:a<9223372036854775808):(BitVec.ofInt 64 (a:Int)).toNat=a:=by
 rw[yn];have b:((2^64:Nat):Int)=18446744073709551616:=cM;rw[b,tS (by omega) (by omega)];omega
def tB (a:Nat)(b:a<9223372036854775808):IntKind.i64.wrap (a:Int)=a:=by rw[ud];omega
def fu (b c a:Nat)(d:b<2^a)(e:c<2^a):(b |||c)<2^a:=yo d e
def bm (a b:Nat)(c:a<9223372036854775808)(d:b<9223372036854775808):bits .and .i64 (a:Int) (b:Int)=((a&&&b:Nat):Int):=by
 have e:bits .and .i64 (a:Int) (b:Int)=IntKind.i64.wrap (((BitVec.ofInt 64 (a:Int)&&&BitVec.ofInt 64 (b:Int)).toNat:Nat):Int):=rfl;rw[e,yp,kD a c,kD b d];exact tB _ (bL gO c)
def g8 (a b:Nat)(c:a<9223372036854775808)(d:b<9223372036854775808):bits .or .i64 (a:Int) (b:Int)=((a |||b:Nat):Int):=by
 have e:bits .or .i64 (a:Int) (b:Int)=IntKind.i64.wrap (((BitVec.ofInt 64 (a:Int) |||BitVec.ofInt 64 (b:Int)).toNat:Nat):Int):=rfl;rw[e,BitVec.toNat_or,kD a c,kD b d];exact tB _ (fu a b 63 c d)
def Bq (a b:Nat)(c:a<9223372036854775808)(d:b<9223372036854775808):bits .xor .i64 (a:Int) (b:Int)=((a^^^b:Nat):Int):=by
 have e:bits .xor .i64 (a:Int) (b:Int)=IntKind.i64.wrap (((BitVec.ofInt 64 (a:Int)^^^BitVec.ofInt 64 (b:Int)).toNat:Nat):Int):=rfl;rw[e,BitVec.toNat_xor,kD a c,kD b d];exact tB _ (yq (n:=63) c d)
def E3 (b c a:Nat)(j:b<2^a):(b&&& (2^a- (c%2^a+1)))=aI b c:=by
 have h:=n0 _ (b&&& (2^a- (c%2^a+1))) (b&&&c) (aB _);have e:c%2^a<2^a:=gc _ (lp a);have f:((b&&& (2^a- (c%2^a+1))) |||(b&&&c))=b:=by
  refine hx fun i=>?_;rw[fF,dd,dd,yr e,mL];by_cases d:i<a
  . exact Je
  . have:b.testBit i=false:=Nat.testBit_lt_two_pow (aR j (cY m m));simp[this]
 have g:((b&&& (2^a- (c%2^a+1)))&&& (b&&&c))=0:=by
  refine hx fun i=>?_;rw[dd,dd,dd,yr e,mL];by_cases d:i<a
  . exact Je
  . simp[d]
 rw[f,g]at h;unfold aI;omega
def gs (b a:Nat)(c:b<9223372036854775808)(d:a<9223372036854775808):bits .andNot .i64 (b:Int) (a:Int)=((aI b a:Nat):Int):=by
 have f:bits .andNot .i64 (b:Int) (a:Int)=IntKind.i64.wrap (((BitVec.ofInt 64 (b:Int)&&& ~~~ BitVec.ofInt 64 (a:Int)).toNat:Nat):Int):=rfl;have e:(~~~ BitVec.ofInt 64 (a:Int)).toNat=2^64- (a%2^64+1):=by
  rw[BitVec.toNat_not,kD a d,yg (aR d (by decide))];omega
 rw[f,yp,kD b c,e,E3 b a 64 (aR c (by decide))];exact tB _ (by unfold aI;omega)
def h0 (a b:Nat):aI a b<=a:=by unfold aI;omega
def i7 (b:Int)(a:Nat)(j:a<=62):bits .and .i64 b ((2^a-1:Nat):Int)=b%2^a:=by
 have c:((2:Int)^a)=((2^a:Nat):Int):=bN;have n:2^a<=2^62:=cY R j;have l:1<=2^a:=pG;have h:(BitVec.ofInt 64 b&&&BitVec.ofInt 64 ((2^a-1:Nat):Int)).toNat=(b%2^a).toNat:=by
  rw[yp,yn,yn];have d:(((2^a-1:Nat):Int)% ((2^64:Nat):Int)).toNat=2^a-1:=by
   rw[tS (by omega) (by have:(2:Nat)^64=18446744073709551616:=(by decide);omega)];omega
  rw[d,q6,c];have hd:(2^a:Nat) ∣ 2^64:=Nat.pow_dvd_pow 2 m;have e:((b% ((2^64:Nat):Int)).toNat:Int)=b% ((2^64:Nat):Int):=oG (oA _ R);have k:(((b% ((2^64:Nat):Int)).toNat%2^a:Nat):Int)=b% ((2^a:Nat):Int):=by
   rw[Int.natCast_emod,e];exact Int.emod_emod_of_dvd b (Int.natCast_dvd_natCast.2 hd)
  omega
 have i:bits .and .i64 b ((2^a-1:Nat):Int)=IntKind.i64.wrap (((BitVec.ofInt 64 b&&&BitVec.ofInt 64 ((2^a-1:Nat):Int)).toNat:Nat):Int):=rfl;rw[i,h,ud];have f:b%2^a<2^a:=tU _ (by rw[c];omega);have g:0<=b%2^a:=oA _ (by rw[c];omega);rw[c]at f g|-;omega
def pQ (a:Int):bits .and .i64 a 1=a%2:=i7 a 1 (by decide)
def Bl (a:Int):bits .and .i64 a 3=a%4:=i7 a 2 (by decide)
def p0 (a:L)(b:D):
 O 216 #[.int .u8 (a.toNat:Int)] (.bool (C.isLet a)) b:=by
 by_cases c:(97:Int)<=a.toNat
 . by_cases d:(a.toNat:Int)<=122
   . go_enter func216,ntmps216;go_wp2;go_ret;exact⟨by rw[show C.isLet a=true by simp[C.isLet];omega];rfl,rfl⟩
   . exact Jf
 . exact Jf
def cP {a:L}{n:Nat}(c:n<256):(a.toNat:Int)=n↔a=UInt8.ofNat n:=H1
def qi {b:L}{a:Nat}{c:List L}{d:Bool}(e:Hid (C.fits (b::c) a=d)):d=(C.fi b (a%2)&&C.fits c (a/2)):=e.out.symm
def sT {a:L}{b:Nat}(c:(a.toNat:Int)=48):C.fi a (b%2)=!(b%2==1):=by
 have:a=48:=(cP (n:=48) R).1 c;subst this;simp[C.fi]
def sU {a:L}{b:Nat}(c:(a.toNat:Int)=49):C.fi a (b%2)=!(b%2==0):=by
 have:a=49:=(cP (n:=49) R).1 c;subst this;simp[C.fi]
def CK {a:L}{f:Nat}(e:¬(a.toNat:Int)=48)(l:¬(a.toNat:Int)=49):C.fi a (f%2)=true:=by
 have b:a≠48:=fun d=>e ((cP (n:=48) R).2 d);have c:a≠49:=LV;simp[C.fi,b,c]
def iE (a:K)(i:Nat)(b:i<a.size):C.ah a.data.toList (i+1)=a[i]::C.ah a.data.toList i:=by
 rw[C.U9 _ _ (by simpa using b)];rfl
theorem wF (a:K)(q:a.size<=32)(W:Nat)(k:G W)(m:D):
 O 209 #[.string a,j W] (.bool (C.fits (C.ah a.data.toList a.size) W)) m:=by
 go_enter func209,ntmps209;go_wp2;go_loop [1,5] (fun n g=>∃f b:Nat,f<=a.size/\b<4294967296/\g=j ((f:Int)-1)/\n=j b/\Hid (C.fits (C.ah a.data.toList f) b=C.fits (C.ah a.data.toList a.size) W)) (fun _ g=>(intOf g+1).toNat);case atStart=>exact⟨a.size,W,aB _,k,rfl,rfl,rfl⟩
 case round=>
  obtain⟨f,b,p,r,rfl,rfl,e⟩:=hrel;cases f with
  |zero=>
   go_wp2;go_ret;exact⟨by rw[<-e.out];rfl,rfl⟩
  |succ i=>
   have h:((i+1:Nat):Int)-1=(i:Int):=J;rw[h];have l:i<a.size:=J;rw[iE a i l]at e;have o:=pQ (b:Int);go_wp2
   . go_ret;have c:(a[i].toNat:Int)=48:=g1;have d:(b:Int)%2=1:=g1;exact⟨by rw[qi e,sT c,show(b%2==1)=true by simp;omega];rfl,rfl⟩
   . have c:(a[i].toNat:Int)=48:=g1;have d:¬(b:Int)%2=1:=g1;go_round;case rel=>exact⟨i,b/2,by omega,by omega,by go_num,by go_num,by rw[qi e,sT c,show(b%2==1)=false by simp;omega];rfl⟩
     case measure=>exact dF
   . go_ret;have c:(a[i].toNat:Int)=49:=g1;have d:((b:Int)%2==0)=true:=g1;rw[bb]at d;exact⟨by rw[qi e,sU c,show(b%2==0)=true by simp;omega];rfl,rfl⟩
   . have c:(a[i].toNat:Int)=49:=g1;have d:((b:Int)%2==0)=false:=g1;rw[b5]at d;go_round;case rel=>exact⟨i,b/2,by omega,by omega,by go_num,by go_num,by rw[qi e,sU c,show(b%2==0)=false by simp;omega];rfl⟩
     case measure=>exact dF
   . have c:¬(a[i].toNat:Int)=48:=g1;have d:¬(a[i].toNat:Int)=49:=g1;go_round;case rel=>exact⟨i,b/2,by omega,by omega,by go_num,by go_num,by rw[qi e,CK c d];rfl⟩
     case measure=>exact dF
def afc {m:L->Bool}{c:L}{b:List L}{d i a f e:Nat}(k:m c=true)(j:Hid (i+a*C.val m (c::b) d=f/\a*2^C.ao m (c::b)=e)):
 Hid (i+d%2*a+(a*2)*C.val m b (d/2)=f/\(a*2)*2^C.ao m b=e):=by
 obtain⟨g,h⟩:=j.out;simp only[C.val,C.ao,k,cv,ow]at g h;refine⟨?_,by rw[<-h,hA]⟩;rw[<-g,jr,hA a 2,fl (d%2) a];omega
def afd {m:L->Bool}{c:L}{a:List L}{i h b e d:Nat}(k:m c=false)(j:Hid (h+b*C.val m (c::a) i=e/\b*2^C.ao m (c::a)=d)):
 Hid (h+b*C.val m a (i/2)=e/\b*2^C.ao m a=d):=by
 obtain⟨f,g⟩:=j.out;simp only[C.val,C.ao,k,bi]at f g;exact⟨f,g⟩
def ES {a:L->Bool}{b:List L}{e:List L}{i h c f W:Nat}(s:b.length<=32)(r:f=C.val a b W)(d:Hid (h+c*C.val a e i=f/\c*2^C.ao a e=2^C.ao a b)):h<4294967296/\1<=c/\c<=4294967296:=by
 obtain⟨p,q⟩:=d.out;have j:=C.mG a b W;have k:=C.sq a b;have l:2^C.ao a b<=2^32:=ke;have n:1<=2^C.ao a e:=pG;have o:c*1<=c*2^C.ao a e:=AA;have g:1<=2^C.ao a b:=pG;refine⟨by omega,?_,by omega⟩;rcases Nat.eq_zero_or_pos c with d|d
 . subst d;omega
 . exact d
def aM (c:K)(a:L)(W:Nat):Nat:=
 let b:=C.ah c.data.toList c.size
 if C.ao (· ==a) b=3 then C.val (· ==a) b W+8 else C.val (· ==a) b W
def CY {b:Nat}:2^b=8↔b=3:=by
 constructor
 . intro a;have:(2:Nat)^b=2^3:=a;exact(Nat.pow_right_inj R).1 this
 . intro a;subst a;rfl
def UU {a:K}{b:L}{W c d e:Nat}(g:Hid (C.val (· ==b) (C.ah a.data.toList a.size) W=c))(h:Hid (d=c))
 (i:Hid (e=2^C.ao (· ==b) (C.ah a.data.toList a.size))) (f:Hid (e=8)):aM a b W=d+8:=by
 unfold aM;rw[B (CY.1 (by rw[<-i.out];exact f.out)),g.out,h.out]
def UV {a:K}{b:L}{W c d e:Nat}(g:Hid (C.val (· ==b) (C.ah a.data.toList a.size) W=c))(h:Hid (d=c))
 (i:Hid (e=2^C.ao (· ==b) (C.ah a.data.toList a.size))) (f:¬e=8):aM a b W=d:=by
 unfold aM;rw[z (fun j=>f (by rw[i.out];exact CY.2 j)),g.out,h.out]
theorem sE (a:K)(A:a.size<=32)(f:L)(W:Nat)(M:G W)(R:D):
 O 297 #[.string a,.int .u8 (f.toNat:Int),j W] (j (aM a f W)) R:=by
 have z:(C.ah a.data.toList a.size).length<=32:=Ml;generalize y:C.val (· ==f) (C.ah a.data.toList a.size) W=q;have n:Hid (C.val (· ==f) (C.ah a.data.toList a.size) W=q):=y;clear y;go_enter func297,ntmps297;go_wp2;go_loop [2,7,8,9] (fun S P Q s=>∃l c d b:Nat,l<=a.size/\c<4294967296/\s=j ((l:Int)-1)/\S=j c/\P=j d/\Q=j b/\
  Hid (d+b*C.val (· ==f) (C.ah a.data.toList l) c=q/\b*2^C.ao (· ==f) (C.ah a.data.toList l)=2^C.ao (· ==f) (C.ah a.data.toList a.size))) (fun _ _ _ s=>(intOf s+1).toNat)
 case atStart=>exact⟨a.size,W,0,1,aB _,M,rfl,rfl,rfl,rfl,⟨by rw[n.out];omega,by omega⟩⟩
 case round=>
  obtain⟨l,c,d,b,Y,Z,rfl,rfl,rfl,rfl,g⟩:=hrel;obtain⟨T,U,V⟩:=ES z n.out.symm g;cases l with
  |zero=>
   obtain⟨t,u⟩:=g.out;simp only[C.qq,C.val,C.ao,q2,dl,lq,oH]at t u;have w:Hid (b=2^C.ao (· ==f) (C.ah a.data.toList a.size)):=u;have v:Hid (d=q):=t;clear t u g;by_cases r:b=8
   . have I:((b:Int)==8)=true:=jz;have E:Hid (b=8):=r;clear r;go_wp2;go_ret;exact⟨congrArg (fun h=>Ending.returned (j h)) (by rw[UU n v w E];omega),rfl⟩
   . have I:((b:Int)==8)=false:=gV;go_wp2;go_ret;exact⟨congrArg (fun h=>Ending.returned (j h)) (by rw[UV n v w r]),rfl⟩
  |succ i=>
   have F:((i+1:Nat):Int)-1=(i:Int):=J;rw[F];have N:i<a.size:=J;rw[iE a i N]at g;by_cases k:a[i]=f
   . have B:(a[i].toNat:Int)==f.toNat:=by rw[k];simp
     have o:(fun h=>h==f) a[i]=true:=by simp[k]
     have e:=afc (m:=(· ==f)) (c:=a[i]) o g;clear k g o;have x:=(ES z n.out.symm e).1;rcases gh c with p|p
     . have H:bits BinOp.and IntKind.i64 (c:Int) 1=0:=vG;rw[p]at e x;clear p;go_wp2;go_round;case rel=>exact⟨i,c/2,d,b*2,by omega,by omega,by go_num,by go_num,by go_num,by go_num,by simpa using e⟩
       case measure=>exact dF
     . have H:bits BinOp.and IntKind.i64 (c:Int) 1=1:=vG;rw[p]at e x;clear p;go_wp2;go_round;case rel=>exact⟨i,c/2,d+b,b*2,by omega,by omega,by go_num,by go_num,by go_num,by go_num,by simpa using e⟩
       case measure=>exact dF
   . have B:((a[i].toNat:Int)==f.toNat)=false:=by
      rw[b5];intro X;exact k (oy.1 m)
     have o:(fun h=>h==f) a[i]=false:=by simp[k]
     have e:=afd (m:=(· ==f)) (c:=a[i]) o g;clear k g o;go_wp2;exact Jg
theorem Do :∀(b:List L) (a:Nat) (c:a<b.length),a<u.cI b->u.dh b[a]=true
 |[],_,c,_=>by simp at c
 |f::b,a,c,d=>by
  simp only[u.cI]at d
  split at d
  . next e=>
    cases a with
    |zero=>exact e
    |succ a=>exact Do b a (by simpa using c) (by omega)
  . omega
theorem Dp :∀(a:List L),u.cI a<a.length->(a[u.cI a]?).map u.dh=some false
 |[],b=>by simp at b
 |c::a,b=>by
  cases e:u.dh c
  . have d:u.cI (c::a)=0:=by simp[u.cI,e]
    rw[d];simp[e]
  . have d:u.cI (c::a)=u.cI a+1:=by simp[u.cI,e]
    rw[d]at b|-
    simp only[List.getElem?_cons_succ]
    exact Dp a (by simpa using b)
def U0 (c:K)(a b:Nat)(e:a<=b)(f:b<a+u.cI (c.data.toList.drop a))(g:b<c.size):u.dh c[b]=true:=by
 have d:=Do (c.data.toList.drop a) (b-a) ad m;rw[List.getElem_drop]at d;simp only[show a+(b-a)=b by omega]at d;exact d
def U3 (a:K)(c:Nat)(b:Nat)(f:b=c+u.cI (a.data.toList.drop c))(e:b<a.size):u.dh a[b]=false:=by
 have d:=Dp (a.data.toList.drop c) ad;rw[oE,<-f,mh a b e]at d;simpa using d
def abo (a:K)(aJ:a.size<=5000)(c:D):
 Calls prog 225 #[.string a] c fun Q N=>∃G,Q=.returned G/\G≠ .slice none 0 0/\N.ownsRow c.heap.size 9 1 G (u.tok a.size a.data.toList).length ((u.tok a.size a.data.toList).map u.aG)/\Below c.heap.size c N:=by
 have aH:∀c,(Instr.buildSlice 165 0 #[]).run prog c=.ok (.slice (some ⟨c.heap.size,0,none⟩) 0 0) (c.alloc (.cells #[] 9)):=fun _=>by kernel_rfl
 obtain⟨ar,af,an,ao,ap⟩:=hy Tryz.YN;obtain⟨e,S⟩:=y (u.tok a.size a.data.toList);rw[<-S];have av:=l S;clear S;go_enter func225,ntmps225;go_wp2;go_loopw [3,4] (fun G n wr=>∃(b:Nat) (p:List (List L)),b<=a.size/\p.length<=b/\n=j b/\G≠ .slice none 0 0/\wr.ownsRow c.heap.size 9 1 G p.length (p.map u.aG)/\Below c.heap.size c wr/\Hid (e=p++u.tok (a.size-b) (a.data.toList.drop b))) (fun _ n _=>a.size- (intOf n).toNat);case atStart=>exact Ih
 case round=>
  obtain⟨b,p,aF,aI,rfl,V,h,o,s⟩:=hrel;by_cases aj:b<a.size
  . have A:=eF a b aj;have C:a.size-b=(a.size-b-1)+1:=J;have W:=o.size;have X:∀f,u3.ownBlock=some f->c.heap.size<=f:=uX;by_cases x:a[b].toNat=35
    . exact Ia
    . have aw:((a[b].toNat:Int) !=35)=true:=M;have al:u.cI (a.data.toList.drop b)<=a.size-b:=Hb;obtain⟨r,P⟩:=y (u.cI (a.data.toList.drop b));rw[<-P]at al;have HR:=l P;have am:e=p++(if 0<r then(a.data.toList.drop b).take r::u.tok (a.size-b-1) ((a.data.toList.drop b).drop r)else if u.blank a[b]=true then u.tok (a.size-b-1) (a.data.toList.drop (b+1))else[a[b]]::u.tok (a.size-b-1) (a.data.toList.drop (b+1))):=by
       rw[s.out,P,C,A];simp only[u.tok];rw[z x];simp only[Nat.add_sub_cancel]
      clear P s A C x;have g:=l am;clear am;obtain⟨d,aa⟩:=y (b+r);have i:=l aa;have ac:d<=a.size:=J;have ab:b<=d:=J;clear aa al;have ag:∀f,b<=f->f<d->(v:f<a.size)->u.dh a[f]=true:=fun f O ay v=>U0 a b f O (by rw[<-HR.out,<-i.out];exact ay) v;have Y:=l ag;have ak:(v:d<a.size)->u.dh a[d]=false:=fun v=>U3 a b d (by rw[<-HR.out,<-i.out]) v;have Z:=l ak;clear ag ak HR;go_upto_block 2 with fail;clear aw;go_cut [5,6]from 19 to 30 (fun n _ wc=>n=j (d:Int)/\wc=wr);case first=>
       go_wp2_with fail;go_loop [5,6] (fun n _=>∃f:Nat,b<=f/\f<=d/\n=j f) (fun n _=>a.size- (intOf n).toNat);case atStart=>exact⟨b,aB _,ab,rfl⟩
       case round=>
        obtain⟨f,az,aG,rfl⟩:=hrel;by_cases aA:f<d
        . have ai:f<a.size:=J;have aC:=Y.out f az aA ai;go_wp2_with(go_at_call 308;refine(tt _ _).mono ?_;rintro Q N ⟨rfl,rfl⟩);go_round;case rel=>exact⟨f+1,by omega,by omega,by go_num⟩
          case measure=>exact a5
        . have ah:f=d:=J;have U:=l ah;clear ah;by_cases ai:f<a.size
          . have aC:u.dh a[f]=false:=by
             have v:=Z.out (by have:=U.out;omega);have ax:=U.out;subst ax;exact v
            go_wp2_with(go_at_call 308;refine(tt _ _).mono ?_;rintro Q N ⟨rfl,rfl⟩);exact L7
          . go_wp2;exact L7
      case rest=>
       obtain⟨rfl,rfl⟩:=hcut;clear Y Z;by_cases T:0<r
       . have aE:b<d:=by have:=i.out;omega
         have q:Hid (e=(p++[(a.data.toList.drop b).take r])++u.tok (a.size-d) (a.data.toList.drop d)):=by
          show e=_;rw[i.out,g.out,B T,ls,tn (a.size-b-1) (a.size- (b+r)) _ (by simp;omega) (by simp)];simp
         clear g T;obtain⟨H,w⟩:=y (a.extract b d);have aD:∀c,(Instr.slice 9 (.string a) (some (.int .i64 (b:Int))) (some (.int .i64 (d:Int))) none).run prog c=.ok (.string H) c:=by
          intro c;rw[w];exact mz a b d m ac c
         have I:=l w;clear w;go_wp2_with(at_builtin;refine j8 _ rfl (.tmp 34) (.tmp 39) 165 rfl c.heap.size 9 ar (.string ⟨#[]⟩) 1 16 Tryz.underlying165 af an ao ap rfl R _ _ _ rfl (h.alloc _) ⟨_,0,none⟩ 1 1 [.string H] rfl rfl ?c1 ?c2 ?c3 ?c4 ?c5 ?_);case c1=>
          exact m9
         case c2=>exact ps
         case c3=>exact gq
         case c4=>omega
         case c5=>simp;omega
         exact Ic
       . have ae:d=b:=by have:=i.out;omega
         rw[ae];clear i ac ab ae;rw[z T]at g;have E:u.blank a[b]=(((a[b].toNat:Int)==32) ||((a[b].toNat:Int)==9)):=by
          unfold u.blank;rw[dZ];simp;omega
         cases k:((a[b].toNat:Int)==32)
         . cases F:((a[b].toNat:Int)==9)
           . rw[E,k,F,z (by decide)]at g;have d32:((a[b].toNat:Int) !=32)=true:=by rw[bne,k];rfl
             have d9:((a[b].toNat:Int) !=9)=true:=by rw[bne,F];rfl
             have q:Hid (e=(p++[[a[b]]])++u.tok (a.size- (b+1)) (a.data.toList.drop (b+1))):=by
              show e=_;rw[g.out,show a.size- (b+1)=a.size-b-1 by omega];simp
             clear g E k F;have O:(a.data.toList.drop b).take 1=[a[b]]:=by rw[eF a b aj];rfl
             have au:=l O;clear O;obtain⟨H,w⟩:=y (a.extract b (b+1));have aD:∀c,(Instr.slice 9 (.string a) (some (.int .i64 (b:Int))) (some (.int .i64 ((b:Int)+1))) none).run prog c=.ok (.string H) c:=by
              intro c;rw[w];exact mz a b (b+1) m m c
             have I:=l w;clear w;go_wp2_with(at_builtin;refine j8 _ rfl (.tmp 52) (.tmp 58) 165 rfl c.heap.size 9 ar (.string ⟨#[]⟩) 1 16 Tryz.underlying165 af an ao ap rfl R _ _ _ rfl (h.alloc _) ⟨_,0,none⟩ 1 1 [.string H] rfl rfl ?c1 ?c2 ?c3 ?c4 ?c5 ?_);case c1=>
              exact m9
             case c2=>exact ps
             case c3=>exact gq
             case c4=>omega
             case c5=>simp;omega
             exact Ie
           . rw[E,k,F,show(false ||true)=true from rfl,B rfl]at g;have d32:((a[b].toNat:Int) !=32)=true:=by rw[bne,k];rfl
             have d9:((a[b].toNat:Int) !=9)=false:=by rw[bne,F];rfl
             have q:Hid (e=p++u.tok (a.size- (b+1)) (a.data.toList.drop (b+1))):=by
              show e=_;rw[g.out,show a.size- (b+1)=a.size-b-1 by omega]
             clear g E k F;exact L8
         . rw[E,k,Bool.true_or,B rfl]at g;have d32:((a[b].toNat:Int) !=32)=false:=by rw[bne,k];rfl
           have q:Hid (e=p++u.tok (a.size- (b+1)) (a.data.toList.drop (b+1))):=by
            show e=_;rw[g.out,show a.size- (b+1)=a.size-b-1 by omega]
           clear g E k;exact L8
  . exact Ig
end Go.Proofs.YtmlgonbhoknoiaaGreatDoor
