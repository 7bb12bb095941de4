import Derived.Test.YtmlgonbhoknoiabGreatDoorJAD
set_option maxHeartbeats 8000000
set_option maxRecDepth 100000
set_option linter.all false
namespace Go.Proofs.YtmlgonbhoknoiabGreatDoor
open Go.RowKit Go.Proofs.Tryz
def eP (a:P)(b:Int)(c:Nat):P:=
 if b=33554432 then{a with Wj:=c%2}else if b=33570816 then{a with cmp:=c}else if b=33570820 then{a with Wv:=c}else if b=33603576 then{a with time:=c}else if b=33603580 then{a with Wh:=c}
 else if b=268435456 then(if a.Wc.size<8 then{a with Wc:=a.Wc++strOfNums (b3 c 1)}else a)
 else if b=268435457 then{a with enable:=c%8}else if b=268435463 then{a with Wr:=c%256}else a
def cg (a:P)(b c:Int)(d:Nat):P:=if aZ b c a.o.length=true then{a with o:=bt a.o (b-2147483648).toNat c.toNat d}else if bD b c a.o.length=true then eP a b d else a
theorem yf (n q:Nat)(c:P)(N:aS c)(f e:Int)(Z:-1099511627776<=f)(aa:f<=1099511627776)(X:-1024<=e)(Y:e<=1024)(b:Nat)(ag:G b)(k:D)(a:Hid (ap k n q c)):
 Calls prog 428 #[I n,j f,j e,j b] k fun h L=>h=.returned (.tuple #[])/\ap L n q (cg c f e b)/\Kept [n,q] k L:=by
 have S:=a.out.V8;cases hd:aZ f e c.o.length with
 |true=>
  have h:cg c f e b={c with o:=bt c.o (f-2147483648).toNat e.toNat b}:=by unfold cg;rw[B hd]
  rw[h];unfold aZ at hd;simp only[cA]at hd;have ae:e=(e.toNat:Int):=J;have U:=EY n q c N f (f-2147483648).toNat e.toNat m m m m b ag k a;rw[<-ae]at U;exact U.mono fun h L o=>⟨o.1,o.2.1,o.2.2.mono F⟩
 |false=>
  have o:=iN n q f e Z aa X Y c.o.length N.o k S;have t:=tS n q f e Z aa X Y c.o.length N.o k S;rw[hd]at o;cases r:bD f e c.o.length with
  |false=>
   have h:cg c f e b=c:=by unfold cg;rw[z (by rw[hd];decide),z (by rw[r];decide)]
   rw[h];rw[r]at t;have v:=l o;have w:=l t;clear o t hd r h;go_enter oH,oI;go_wp2_with fail;refine v.out.mono ?_;rintro h s ⟨rfl,rfl⟩;go_wp2_with fail;refine w.out.mono ?_;rintro h s ⟨rfl,rfl⟩;go_wp2_with fail;refine ab (v:=.tuple #[]) Gc rfl ⟨rfl,a.out,Kept.refl _ _⟩
  |true=>
   have h:cg c f e b=eP c f b:=by unfold cg;rw[z (by rw[hd];decide),B r]
   rw[h];have i:=x2 hd r;rw[r]at t;have v:=l o;have w:=l t;clear o t hd r h;unfold eK ep at i;simp only[cA]at i;have ax:=a.out.Wb;have aA:=a.out.lt;by_cases ah:f=33554432
   . subst ah;have g:e=4:=J;subst g;clear i;have c1:=a.out.c1;have d:eP c 33554432 b={c with Wj:=b%2}:=kp;rw[d];clear d;have x:(b:Int).tmod 2=((b%2:Nat):Int):=iz b 2;obtain⟨A,u⟩:=y (b%2);rw[<-u]at x|-;have p:=l (a.out.Zb A);exact zY
   by_cases ai:f=33570816
   . subst ai;have g:e=4:=J;subst g;clear i;have c4:=a.out.c4;have d:eP c 33570816 b={c with cmp:=b}:=kp;rw[d];clear d;have p:=l (a.out.Yz b);exact sj
   by_cases aj:f=33570820
   . subst aj;have g:e=4:=J;subst g;clear i;have c5:=a.out.c5;have d:eP c 33570820 b={c with Wv:=b}:=kp;rw[d];clear d;have p:=l (a.out.Zc b);exact sj
   by_cases ak:f=33603576
   . subst ak;have g:e=4:=J;subst g;clear i;have c2:=a.out.c2;have d:eP c 33603576 b={c with time:=b}:=kp;rw[d];clear d;have p:=l (a.out.YO b);exact sj
   by_cases al:f=33603580
   . subst al;have g:e=4:=J;subst g;clear i;have c3:=a.out.c3;have d:eP c 33603580 b={c with Wh:=b}:=kp;rw[d];clear d;have p:=l (a.out.YP b);exact sj
   by_cases am:f=268435456
   . subst am;have g:e=1:=J;subst g;clear i;have T:=a.out.Xt;have E:=l (yi n c.Wc k T);by_cases H:c.Wc.size<8
     . have d:eP c 268435456 b={c with Wc:=c.Wc++strOfNums (b3 b 1)}:=by unfold eP;simp[H]
       rw[d];clear d;rw[bc H]at E;have V:Hid (∀W,ac 89 #[j b,j 1] (.string (strOfNums (b3 b 1))) W):=l (fun W=>qX b 1 m W);have af:(strOfNums (b3 b 1)).size=1:=by rw[oe,kS]
       obtain⟨M,O⟩:=y (strOfNums (b3 b 1));rw[<-O]at V af;simp only[<-O];obtain⟨C,Q⟩:=y (c.Wc++M);simp only[<-Q];have az:∀k,(Op.stringOp .add c.Wc M).run prog k=.ok (.string C) k:=fun k=>wq (a:=c.Wc) (b:=M) (c:=C) Q.symm m k;clear O Q;go_enter oH,oI;go_wp2_with fail;refine v.out.mono ?_;rintro h s ⟨rfl,rfl⟩;go_wp2_with fail;refine w.out.mono ?_;rintro h s ⟨rfl,rfl⟩;go_wp2_with fail;refine E.out.mono ?_;rintro h s ⟨rfl,rfl⟩;go_wp2_with fail;refine(V.out _).mono ?_;rintro h au ⟨rfl,R⟩;have K:=a.out.more (Below.kept R []) F F;have d10:=K.Xt;have ay:=K.Wb;have p:=l (K.YS C);have ad:Hid (Kept [n,q] s (au.setCell ⟨n,10,none⟩ (.string C))):=l ((Below.kept R [n,q]).setCell (.inl F) _);clear K R T;go_wp2_with fail;go_end0;exact⟨rfl,p.out,ad.out⟩
     . have d:eP c 268435456 b=c:=by unfold eP;simp[H]
       rw[d];clear d;rw[aU H]at E;go_enter oH,oI;go_wp2_with fail;refine v.out.mono ?_;rintro h s ⟨rfl,rfl⟩;go_wp2_with fail;refine w.out.mono ?_;rintro h s ⟨rfl,rfl⟩;go_wp2_with fail;refine E.out.mono ?_;exact Je
   by_cases an:f=268435457
   . subst an;have g:e=1:=J;subst g;clear i;have av:=a.out.W4;have d:eP c 268435457 b={c with enable:=b%8}:=kp;rw[d];clear d;have x:(b:Int).tmod 8=((b%8:Nat):Int):=iz b 8;obtain⟨A,u⟩:=y (b%8);rw[<-u]at x|-;have p:=l (a.out.Zd A);exact zY
   by_cases ao:f=268435458
   . subst ao;have g:e=1:=J;subst g;clear i;have d:eP c 268435458 b=c:=kp;exact Jf
   by_cases aq:f=268435461
   . subst aq;have g:e=1:=J;subst g;clear i;have d:eP c 268435461 b=c:=kp;exact Jf
   by_cases ar:f=268435463
   . subst ar;have g:e=1:=J;subst g;clear i;have aw:=a.out.W5;have d:eP c 268435463 b={c with Wr:=b%256}:=kp;rw[d];clear d;have x:(b:Int).tmod 256=((b%256:Nat):Int):=iz b 256;obtain⟨A,u⟩:=y (b%256);rw[<-u]at x|-;have p:=l (a.out.Ze A);exact zY
   exfalso;omega
def l1 (a b:Nat):((a:Int)==(b:Int))=decide (a=b):=by rw[dY];simp;omega
def abZ (c i:Nat)(a:Q)(b:Nat)(f:D)(k:Hid (T f c i a)):
 O 413 #[I c,j b] (.bool (if decide (b<3)=true then decide (2147483648<=a.Wf)else false)) f:=by
 have n:=k.out.X6;have l:decide ((b:Int)<3)=decide (b<3):=fI;have m:decide (2147483648<=(a.Wf:Int))=decide (2147483648<=a.Wf):=fI;obtain⟨g,d⟩:=y (decide (b<3));rw[<-d]at l|-;clear d;obtain⟨h,e⟩:=y (decide (2147483648<=a.Wf));rw[<-e]at m|-;clear e;cases g<;>cases h;all_goals
  go_enter func413,ntmps413;exact cm
def ab8 (b f:Nat)(a:Q)(d:D)(g:Hid (T d b f a)):
 O 448 #[I b] (.bool (decide (a.sum=1))) d:=by
 have i:=g.out.Xi;have h:((a.sum:Int)==1)=decide (a.sum=1):=fI;obtain⟨e,c⟩:=y (decide (a.sum=1));rw[<-c]at h|-;clear c;cases e;all_goals
  go_enter func448,ntmps448;exact cm
def abY (b f:Nat)(a:Q)(d:D)(g:Hid (T d b f a)):
 O 449 #[I b] (.bool (decide (a.WT=1))) d:=by
 have i:=g.out.Xt;have h:((a.WT:Int)==1)=decide (a.WT=1):=fI;obtain⟨e,c⟩:=y (decide (a.WT=1));rw[<-c]at h|-;clear c;cases e;all_goals
  go_enter func449,ntmps449;exact cm
def abS (b f:Nat)(a:Q)(d:D)(g:Hid (T d b f a)):
 O 432 #[I b] (.bool (decide (a.mode=3))) d:=by
 have c1:=g.out.c1;have h:((a.mode:Int)==3)=decide (a.mode=3):=fI;obtain⟨e,c⟩:=y (decide (a.mode=3));rw[<-c]at h|-;clear c;cases e;all_goals
  go_enter func432,ntmps432;exact cm
def abT (b k:Nat)(a:Q)(g:D)(f:Hid (T g b k a)):
 O 433 #[I b] (.bool (if decide (a.mode=3)=true then true else if decide (a.mode=1)=true then decide (a.WX=0)else false)) g:=by
 have c1:=f.out.c1;have o:=f.out.X2;have l:((a.mode:Int)==3)=decide (a.mode=3):=fI;have m:((a.mode:Int)==1)=decide (a.mode=1):=fI;have n:((a.WX:Int)==0)=decide (a.WX=0):=fI;obtain⟨h,c⟩:=y (decide (a.mode=3));rw[<-c]at l|-;clear c;obtain⟨i,d⟩:=y (decide (a.mode=1));rw[<-d]at m|-;clear d;obtain⟨j,e⟩:=y (decide (a.WX=0));rw[<-e]at n|-;clear e;cases h<;>cases i<;>cases j;all_goals
  go_enter func433,ntmps433;exact cm
def abU (b k:Nat)(a:Q)(g:D)(f:Hid (T g b k a)):
 O 434 #[I b] (.bool (if decide (a.mode=3)=true then true else if decide (a.mode=1)=true then decide (a.WS=0)else false)) g:=by
 have c1:=f.out.c1;have o:=f.out.X1;have l:((a.mode:Int)==3)=decide (a.mode=3):=fI;have m:((a.mode:Int)==1)=decide (a.mode=1):=fI;have n:((a.WS:Int)==0)=decide (a.WS=0):=fI;obtain⟨h,c⟩:=y (decide (a.mode=3));rw[<-c]at l|-;clear c;obtain⟨i,d⟩:=y (decide (a.mode=1));rw[<-d]at m|-;clear d;obtain⟨j,e⟩:=y (decide (a.WS=0));rw[<-e]at n|-;clear e;cases h<;>cases i<;>cases j;all_goals
  go_enter func434,ntmps434;exact cm
def abR (b k:Nat)(a:Q)(g:D)(f:Hid (T g b k a)):
 O 435 #[I b] (.bool (if decide (a.mode=3)=true then true else if decide (a.mode=1)=true then decide (a.WL=0)else false)) g:=by
 have c1:=f.out.c1;have o:=f.out.XO;have l:((a.mode:Int)==3)=decide (a.mode=3):=fI;have m:((a.mode:Int)==1)=decide (a.mode=1):=fI;have n:((a.WL:Int)==0)=decide (a.WL=0):=fI;obtain⟨h,c⟩:=y (decide (a.mode=3));rw[<-c]at l|-;clear c;obtain⟨i,d⟩:=y (decide (a.mode=1));rw[<-d]at m|-;clear d;obtain⟨j,e⟩:=y (decide (a.WL=0));rw[<-e]at n|-;clear e;cases h<;>cases i<;>cases j;all_goals
  go_enter func435,ntmps435;exact cm
def cv (a:Q)(b:Int):Nat:=if decide (b=0)=true then a.mode else if decide (a.WJ=1)=true then a.Wl else a.mode
def aa3 (d k:Nat)(a:Q)(b:Int)(g:D)(c:Hid (T g d k a)):
 O 412 #[I d,j b] (j (cv a b)) g:=by
 have c1:=c.out.c1;have n:=c.out.W5;have o:=c.out.Xj;unfold cv;have l:(b !=0)=!decide (b=0):=gW;have m:((a.WJ:Int)==1)=decide (a.WJ=1):=ik;obtain⟨h,e⟩:=y (decide (b=0));rw[<-e]at l|-;obtain⟨i,f⟩:=y (decide (a.WJ=1));rw[<-f]at m|-;clear e f;cases h<;>cases i;all_goals
  go_enter func412,ntmps412;exact cm
def ab1 (c g:Nat)(a:Q)(k:G a.Wf)(f:D)(h:Hid (T f c g a)):
 O 414 #[I c] (j ((a.Wf%4194304*4096:Nat):Int)) f:=by
 have l:=h.out.X6;have i:(a.Wf:Int).tmod 4194304=((a.Wf%4194304:Nat):Int):=iz a.Wf 4194304;obtain⟨b,d⟩:=y (a.Wf%4194304);have m:b<4194304:=J;rw[<-d]at i|-;have e:Hid (((b*4096:Nat):Int)=(b:Int)*4096):=ig;clear d;go_enter func414,ntmps414;exact pK
def fT (a:Q):Q:={a with held:=a.Xf,W6:=false,W7:=false}
def ab6 (c f:Nat)(a:Q)(d:D)(b:Hid (T d c f a)):
 Calls prog 241 #[I c] d fun h e=>h=.returned (.tuple #[])/\T e c f (fT a)/\Kept [c] d e:=by
 have i:=b.out.Ym;have k:=b.out.XJ;have n:=b.out.XC;have o:=b.out.Xm;have p:=b.out.Wb;have g:=l (((b.out.set (C':={a with held:=a.Xf}) 36 (j a.Xf) rfl m).set (C':={a with held:=a.Xf,W6:=false}) 37 (.bool false) rfl m).set (C':=fT a) 38 (.bool false) rfl m);go_enter func241,ntmps241;go_wp2_with fail;go_end0;exact⟨rfl,g.out,((qm F).setCell (.inl F) _).setCell (.inl F) _⟩
def kI (a:Nat)(c:a<9223372036854775808):(BitVec.ofInt 64 (a:Int)).toNat=a:=by
 rw[yJ];have b:((2^64:Nat):Int)=18446744073709551616:=cK;rw[b,uo (by omega) (by omega)];omega
def tX (a:Nat)(b:a<9223372036854775808):IntKind.i64.wrap (a:Int)=a:=by rw[uz];omega
def ft (b c a:Nat)(d:b<2^a)(e:c<2^a):(b |||c)<2^a:=yK d e
def bl (a b:Nat)(c:a<9223372036854775808)(d:b<9223372036854775808):bits .and .i64 (a:Int) (b:Int)=((a&&&b:Nat):Int):=by
 have e:bits .and .i64 (a:Int) (b:Int)=IntKind.i64.wrap (((BitVec.ofInt 64 (a:Int)&&&BitVec.ofInt 64 (b:Int)).toNat:Nat):Int):=rfl;rw[e,yL,kI a c,kI b d];exact tX _ (bJ gN c)
def g7 (a b:Nat)(c:a<9223372036854775808)(d:b<9223372036854775808):bits .or .i64 (a:Int) (b:Int)=((a |||b:Nat):Int):=by
 have e:bits .or .i64 (a:Int) (b:Int)=IntKind.i64.wrap (((BitVec.ofInt 64 (a:Int) |||BitVec.ofInt 64 (b:Int)).toNat:Nat):Int):=rfl;rw[e,BitVec.toNat_or,kI a c,kI b d];exact tX _ (ft a b 63 c d)
def BL (a b:Nat)(c:a<9223372036854775808)(d:b<9223372036854775808):bits .xor .i64 (a:Int) (b:Int)=((a^^^b:Nat):Int):=by
 have e:bits .xor .i64 (a:Int) (b:Int)=IntKind.i64.wrap (((BitVec.ofInt 64 (a:Int)^^^BitVec.ofInt 64 (b:Int)).toNat:Nat):Int):=rfl;rw[e,BitVec.toNat_xor,kI a c,kI b d];exact tX _ (yM (n:=63) c d)
def Fp (b c a:Nat)(j:b<2^a):(b&&& (2^a- (c%2^a+1)))=aI b c:=by
 have h:=n4 _ (b&&& (2^a- (c%2^a+1))) (b&&&c) (aB _);have e:c%2^a<2^a:=gb _ (lm a);have f:((b&&& (2^a- (c%2^a+1))) |||(b&&&c))=b:=by
  refine hw fun i=>?_;rw[fE,da,da,yN e,mJ];by_cases d:i<a
  . exact Jy
  . have:b.testBit i=false:=Nat.testBit_lt_two_pow (aQ j (cV m m));simp[this]
 have g:((b&&& (2^a- (c%2^a+1)))&&& (b&&&c))=0:=by
  refine hw fun i=>?_;rw[da,da,da,yN e,mJ];by_cases d:i<a
  . exact Jy
  . simp[d]
 rw[f,g]at h;unfold aI;omega
def gr (b a:Nat)(c:b<9223372036854775808)(d:a<9223372036854775808):bits .andNot .i64 (b:Int) (a:Int)=((aI b a:Nat):Int):=by
 have f:bits .andNot .i64 (b:Int) (a:Int)=IntKind.i64.wrap (((BitVec.ofInt 64 (b:Int)&&& ~~~ BitVec.ofInt 64 (a:Int)).toNat:Nat):Int):=rfl;have e:(~~~ BitVec.ofInt 64 (a:Int)).toNat=2^64- (a%2^64+1):=by
  rw[BitVec.toNat_not,kI a d,yC (aQ d (by decide))];omega
 rw[f,yL,kI b c,e,Fp b a 64 (aQ c (by decide))];exact tX _ (by unfold aI;omega)
def h0 (a b:Nat):aI a b<=a:=by unfold aI;omega
def ja (b:Int)(a:Nat)(j:a<=62):bits .and .i64 b ((2^a-1:Nat):Int)=b%2^a:=by
 have c:((2:Int)^a)=((2^a:Nat):Int):=bL;have n:2^a<=2^62:=cV R j;have l:1<=2^a:=pW;have h:(BitVec.ofInt 64 b&&&BitVec.ofInt 64 ((2^a-1:Nat):Int)).toNat=(b%2^a).toNat:=by
  rw[yL,yJ,yJ];have d:(((2^a-1:Nat):Int)% ((2^64:Nat):Int)).toNat=2^a-1:=by
   rw[uo (by omega) (by have:(2:Nat)^64=18446744073709551616:=(by decide);omega)];omega
  rw[d,rp,c];have hd:(2^a:Nat) ∣ 2^64:=Nat.pow_dvd_pow 2 m;have e:((b% ((2^64:Nat):Int)).toNat:Int)=b% ((2^64:Nat):Int):=oN (oE _ R);have k:(((b% ((2^64:Nat):Int)).toNat%2^a:Nat):Int)=b% ((2^a:Nat):Int):=by
   rw[Int.natCast_emod,e];exact Int.emod_emod_of_dvd b (Int.natCast_dvd_natCast.2 hd)
  omega
 have i:bits .and .i64 b ((2^a-1:Nat):Int)=IntKind.i64.wrap (((BitVec.ofInt 64 b&&&BitVec.ofInt 64 ((2^a-1:Nat):Int)).toNat:Nat):Int):=rfl;rw[i,h,uz];have f:b%2^a<2^a:=uq _ (by rw[c];omega);have g:0<=b%2^a:=oE _ (by rw[c];omega);rw[c]at f g|-;omega
def p6 (a:Int):bits .and .i64 a 1=a%2:=ja a 1 (by decide)
def BG (a:Int):bits .and .i64 a 3=a%4:=ja a 2 (by decide)
def qg (a:L)(b:D):
 O 211 #[.int .u8 (a.toNat:Int)] (.bool (C.isLet a)) b:=by
 by_cases c:(97:Int)<=a.toNat
 . by_cases d:(a.toNat:Int)<=122
   . go_enter func211,ntmps211;go_wp2;go_ret;exact⟨by rw[show C.isLet a=true by simp[C.isLet];omega];rfl,rfl⟩
   . exact Jz
 . exact Jz
def cN {a:L}{n:Nat}(c:n<256):(a.toNat:Int)=n↔a=UInt8.ofNat n:=Im
def qz {b:L}{a:Nat}{c:List L}{d:Bool}(e:Hid (C.fits (b::c) a=d)):d=(C.fh b (a%2)&&C.fits c (a/2)):=e.out.symm
def tg {a:L}{b:Nat}(c:(a.toNat:Int)=48):C.fh a (b%2)=!(b%2==1):=by
 have:a=48:=(cN (n:=48) R).1 c;subst this;simp[C.fh]
def th {a:L}{b:Nat}(c:(a.toNat:Int)=49):C.fh a (b%2)=!(b%2==0):=by
 have:a=49:=(cN (n:=49) R).1 c;subst this;simp[C.fh]
def C4 {a:L}{f:Nat}(e:¬(a.toNat:Int)=48)(l:¬(a.toNat:Int)=49):C.fh a (f%2)=true:=by
 have b:a≠48:=fun d=>e ((cN (n:=48) R).2 d);have c:a≠49:=Mh;simp[C.fh,b,c]
def iF (a:K)(i:Nat)(b:i<a.size):C.ah a.data.toList (i+1)=a[i]::C.ah a.data.toList i:=by
 rw[C.UM _ _ (by simpa using b)];rfl
theorem w1 (a:K)(q:a.size<=32)(W:Nat)(k:G W)(m:D):
 O 208 #[.string a,j W] (.bool (C.fits (C.ah a.data.toList a.size) W)) m:=by
 go_enter func208,ntmps208;go_wp2;go_loop [1,5] (fun n g=>∃f b:Nat,f<=a.size/\b<4294967296/\g=j ((f:Int)-1)/\n=j b/\Hid (C.fits (C.ah a.data.toList f) b=C.fits (C.ah a.data.toList a.size) W)) (fun _ g=>(intOf g+1).toNat);case atStart=>exact⟨a.size,W,aB _,k,rfl,rfl,rfl⟩
 case round=>
  obtain⟨f,b,p,r,rfl,rfl,e⟩:=hrel;cases f with
  |zero=>
   go_wp2;go_ret;exact⟨by rw[<-e.out];rfl,rfl⟩
  |succ i=>
   have h:((i+1:Nat):Int)-1=(i:Int):=J;rw[h];have l:i<a.size:=J;rw[iF a i l]at e;have o:=p6 (b:Int);go_wp2
   . go_ret;have c:(a[i].toNat:Int)=48:=g0;have d:(b:Int)%2=1:=g0;exact⟨by rw[qz e,tg c,show(b%2==1)=true by simp;omega];rfl,rfl⟩
   . have c:(a[i].toNat:Int)=48:=g0;have d:¬(b:Int)%2=1:=g0;go_round;case rel=>exact⟨i,b/2,by omega,by omega,by go_num,by go_num,by rw[qz e,tg c,show(b%2==1)=false by simp;omega];rfl⟩
     case measure=>exact dD
   . go_ret;have c:(a[i].toNat:Int)=49:=g0;have d:((b:Int)%2==0)=true:=g0;rw[ba]at d;exact⟨by rw[qz e,th c,show(b%2==0)=true by simp;omega];rfl,rfl⟩
   . have c:(a[i].toNat:Int)=49:=g0;have d:((b:Int)%2==0)=false:=g0;rw[b4]at d;go_round;case rel=>exact⟨i,b/2,by omega,by omega,by go_num,by go_num,by rw[qz e,th c,show(b%2==0)=false by simp;omega];rfl⟩
     case measure=>exact dD
   . have c:¬(a[i].toNat:Int)=48:=g0;have d:¬(a[i].toNat:Int)=49:=g0;go_round;case rel=>exact⟨i,b/2,by omega,by omega,by go_num,by go_num,by rw[qz e,C4 c d];rfl⟩
     case measure=>exact dD
def aey {m:L->Bool}{c:L}{b:List L}{d i a f e:Nat}(k:m c=true)(j:Hid (i+a*C.val m (c::b) d=f/\a*2^C.ao m (c::b)=e)):
 Hid (i+d%2*a+(a*2)*C.val m b (d/2)=f/\(a*2)*2^C.ao m b=e):=by
 obtain⟨g,h⟩:=j.out;simp only[C.val,C.ao,k,cu,oA]at g h;refine⟨?_,by rw[<-h,hz]⟩;rw[<-g,ju,hz a 2,fk (d%2) a];omega
def aez {m:L->Bool}{c:L}{a:List L}{i h b e d:Nat}(k:m c=false)(j:Hid (h+b*C.val m (c::a) i=e/\b*2^C.ao m (c::a)=d)):
 Hid (h+b*C.val m a (i/2)=e/\b*2^C.ao m a=d):=by
 obtain⟨f,g⟩:=j.out;simp only[C.val,C.ao,k,bh]at f g;exact⟨f,g⟩
def Fc {a:L->Bool}{b:List L}{e:List L}{i h c f W:Nat}(s:b.length<=32)(r:f=C.val a b W)(d:Hid (h+c*C.val a e i=f/\c*2^C.ao a e=2^C.ao a b)):h<4294967296/\1<=c/\c<=4294967296:=by
 obtain⟨p,q⟩:=d.out;have j:=C.mE a b W;have k:=C.sP a b;have l:2^C.ao a b<=2^32:=kj;have n:1<=2^C.ao a e:=pW;have o:c*1<=c*2^C.ao a e:=AW;have g:1<=2^C.ao a b:=pW;refine⟨by omega,?_,by omega⟩;rcases Nat.eq_zero_or_pos c with d|d
 . subst d;omega
 . exact d
def aM (c:K)(a:L)(W:Nat):Nat:=
 let b:=C.ah c.data.toList c.size
 if C.ao (· ==a) b=3 then C.val (· ==a) b W+8 else C.val (· ==a) b W
def Di {b:Nat}:2^b=8↔b=3:=by
 constructor
 . intro a;have:(2:Nat)^b=2^3:=a;exact(Nat.pow_right_inj R).1 this
 . intro a;subst a;rfl
def Ux {a:K}{b:L}{W c d e:Nat}(g:Hid (C.val (· ==b) (C.ah a.data.toList a.size) W=c))(h:Hid (d=c))
 (i:Hid (e=2^C.ao (· ==b) (C.ah a.data.toList a.size))) (f:Hid (e=8)):aM a b W=d+8:=by
 unfold aM;rw[B (Di.1 (by rw[<-i.out];exact f.out)),g.out,h.out]
def Uy {a:K}{b:L}{W c d e:Nat}(g:Hid (C.val (· ==b) (C.ah a.data.toList a.size) W=c))(h:Hid (d=c))
 (i:Hid (e=2^C.ao (· ==b) (C.ah a.data.toList a.size))) (f:¬e=8):aM a b W=d:=by
 unfold aM;rw[z (fun j=>f (by rw[i.out];exact Di.2 j)),g.out,h.out]
theorem s3 (a:K)(A:a.size<=32)(f:L)(W:Nat)(M:G W)(R:D):
 O 296 #[.string a,.int .u8 (f.toNat:Int),j W] (j (aM a f W)) R:=by
 have z:(C.ah a.data.toList a.size).length<=32:=MF;generalize y:C.val (· ==f) (C.ah a.data.toList a.size) W=q;have n:Hid (C.val (· ==f) (C.ah a.data.toList a.size) W=q):=y;clear y;go_enter func296,ntmps296;go_wp2;go_loop [2,7,8,9] (fun S P Q s=>∃l c d b:Nat,l<=a.size/\c<4294967296/\s=j ((l:Int)-1)/\S=j c/\P=j d/\Q=j b/\
  Hid (d+b*C.val (· ==f) (C.ah a.data.toList l) c=q/\b*2^C.ao (· ==f) (C.ah a.data.toList l)=2^C.ao (· ==f) (C.ah a.data.toList a.size))) (fun _ _ _ s=>(intOf s+1).toNat)
 case atStart=>exact⟨a.size,W,0,1,aB _,M,rfl,rfl,rfl,rfl,⟨by rw[n.out];omega,by omega⟩⟩
 case round=>
  obtain⟨l,c,d,b,Y,Z,rfl,rfl,rfl,rfl,g⟩:=hrel;obtain⟨T,U,V⟩:=Fc z n.out.symm g;cases l with
  |zero=>
   obtain⟨t,u⟩:=g.out;simp only[C.qH,C.val,C.ao,rk,di,ln,oO]at t u;have w:Hid (b=2^C.ao (· ==f) (C.ah a.data.toList a.size)):=u;have v:Hid (d=q):=t;clear t u g;by_cases r:b=8
   . have I:((b:Int)==8)=true:=jC;have E:Hid (b=8):=r;clear r;go_wp2;go_ret;exact⟨congrArg (fun h=>Ending.returned (j h)) (by rw[Ux n v w E];omega),rfl⟩
   . have I:((b:Int)==8)=false:=gU;go_wp2;go_ret;exact⟨congrArg (fun h=>Ending.returned (j h)) (by rw[Uy n v w r]),rfl⟩
  |succ i=>
   have F:((i+1:Nat):Int)-1=(i:Int):=J;rw[F];have N:i<a.size:=J;rw[iF a i N]at g;by_cases k:a[i]=f
   . have B:(a[i].toNat:Int)==f.toNat:=by rw[k];simp
     have o:(fun h=>h==f) a[i]=true:=by simp[k]
     have e:=aey (m:=(· ==f)) (c:=a[i]) o g;clear k g o;have x:=(Fc z n.out.symm e).1;rcases gg c with p|p
     . have H:bits BinOp.and IntKind.i64 (c:Int) 1=0:=v6;rw[p]at e x;clear p;go_wp2;go_round;case rel=>exact⟨i,c/2,d,b*2,by omega,by omega,by go_num,by go_num,by go_num,by go_num,by simpa using e⟩
       case measure=>exact dD
     . have H:bits BinOp.and IntKind.i64 (c:Int) 1=1:=v6;rw[p]at e x;clear p;go_wp2;go_round;case rel=>exact⟨i,c/2,d+b,b*2,by omega,by omega,by go_num,by go_num,by go_num,by go_num,by simpa using e⟩
       case measure=>exact dD
   . have B:((a[i].toNat:Int)==f.toNat)=false:=by
      rw[b4];intro X;exact k (oC.1 m)
     have o:(fun h=>h==f) a[i]=false:=by simp[k]
     have e:=aez (m:=(· ==f)) (c:=a[i]) o g;clear k g o;go_wp2;exact JA
theorem DI :∀(b:List L) (a:Nat) (c:a<b.length),a<u.cG b->u.de b[a]=true
 |[],_,c,_=>by simp at c
 |f::b,a,c,d=>by
  simp only[u.cG]at d
  split at d
  . next e=>
    cases a with
    |zero=>exact e
    |succ a=>exact DI b a (by simpa using c) (by omega)
  . omega
theorem DJ :∀(a:List L),u.cG a<a.length->(a[u.cG a]?).map u.de=some false
 |[],b=>by simp at b
 |c::a,b=>by
  cases e:u.de c
  . have d:u.cG (c::a)=0:=by simp[u.cG,e]
    rw[d];simp[e]
  . have d:u.cG (c::a)=u.cG a+1:=by simp[u.cG,e]
    rw[d]at b|-
    simp only[List.getElem?_cons_succ]
    exact DJ a (by simpa using b)
def UD (c:K)(a b:Nat)(e:a<=b)(f:b<a+u.cG (c.data.toList.drop a))(g:b<c.size):u.de c[b]=true:=by
 have d:=DI (c.data.toList.drop a) (b-a) ad m;rw[List.getElem_drop]at d;simp only[show a+(b-a)=b by omega]at d;exact d
def UG (a:K)(c:Nat)(b:Nat)(f:b=c+u.cG (a.data.toList.drop c))(e:b<a.size):u.de a[b]=false:=by
 have d:=DJ (a.data.toList.drop c) ad;rw[oK,<-f,mf a b e]at d;simpa using d
def aaK (a:K)(aJ:a.size<=5000)(c:D):
 Calls prog 231 #[.string a] c fun Q N=>∃G,Q=.returned G/\G≠ .slice none 0 0/\N.ownsRow c.heap.size 9 1 G (u.tok a.size a.data.toList).length ((u.tok a.size a.data.toList).map u.aG)/\Below c.heap.size c N:=by
 have aH:∀c,(Instr.buildSlice 162 0 #[]).run prog c=.ok (.slice (some ⟨c.heap.size,0,none⟩) 0 0) (c.alloc (.cells #[] 9)):=fun _=>by kernel_rfl
 obtain⟨ar,af,an,ao,ap⟩:=hx Tryz.YN;obtain⟨e,S⟩:=y (u.tok a.size a.data.toList);rw[<-S];have av:=l S;clear S;go_enter func231,ntmps231;go_wp2;go_loopw [3,4] (fun G n wr=>∃(b:Nat) (p:List (List L)),b<=a.size/\p.length<=b/\n=j b/\G≠ .slice none 0 0/\wr.ownsRow c.heap.size 9 1 G p.length (p.map u.aG)/\Below c.heap.size c wr/\Hid (e=p++u.tok (a.size-b) (a.data.toList.drop b))) (fun _ n _=>a.size- (intOf n).toNat);case atStart=>exact IB
 case round=>
  obtain⟨b,p,aF,aI,rfl,V,h,o,q⟩:=hrel;by_cases aj:b<a.size
  . have A:=eF a b aj;have C:a.size-b=(a.size-b-1)+1:=J;have W:=o.size;have X:∀f,u3.ownBlock=some f->c.heap.size<=f:=vl;by_cases x:a[b].toNat=35
    . exact Iv
    . have aw:((a[b].toNat:Int) !=35)=true:=M;have al:u.cG (a.data.toList.drop b)<=a.size-b:=Hv;obtain⟨r,P⟩:=y (u.cG (a.data.toList.drop b));rw[<-P]at al;have HR:=l P;have am:e=p++(if 0<r then(a.data.toList.drop b).take r::u.tok (a.size-b-1) ((a.data.toList.drop b).drop r)else if u.blank a[b]=true then u.tok (a.size-b-1) (a.data.toList.drop (b+1))else[a[b]]::u.tok (a.size-b-1) (a.data.toList.drop (b+1))):=by
       rw[q.out,P,C,A];simp only[u.tok];rw[z x];simp only[Nat.add_sub_cancel]
      clear P q A C x;have g:=l am;clear am;obtain⟨d,aa⟩:=y (b+r);have i:=l aa;have ac:d<=a.size:=J;have ab:b<=d:=J;clear aa al;have ag:∀f,b<=f->f<d->(v:f<a.size)->u.de a[f]=true:=fun f O ay v=>UD a b f O (by rw[<-HR.out,<-i.out];exact ay) v;have Y:=l ag;have ak:(v:d<a.size)->u.de a[d]=false:=fun v=>UG a b d (by rw[<-HR.out,<-i.out]) v;have Z:=l ak;clear ag ak HR;go_upto_block 2 with fail;clear aw;go_cut [5,6]from 19 to 30 (fun n _ wc=>n=j (d:Int)/\wc=wr);case first=>
       go_wp2_with fail;go_loop [5,6] (fun n _=>∃f:Nat,b<=f/\f<=d/\n=j f) (fun n _=>a.size- (intOf n).toNat);case atStart=>exact⟨b,aB _,ab,rfl⟩
       case round=>
        obtain⟨f,az,aG,rfl⟩:=hrel;by_cases aA:f<d
        . have ai:f<a.size:=J;have aC:=Y.out f az aA ai;go_wp2_with(go_at_call 315;refine(tP _ _).mono ?_;rintro Q N ⟨rfl,rfl⟩);go_round;case rel=>exact⟨f+1,by omega,by omega,by go_num⟩
          case measure=>exact a4
        . have ah:f=d:=J;have U:=l ah;clear ah;by_cases ai:f<a.size
          . have aC:u.de a[f]=false:=by
             have v:=Z.out (by have:=U.out;omega);have ax:=U.out;subst ax;exact v
            go_wp2_with(go_at_call 315;refine(tP _ _).mono ?_;rintro Q N ⟨rfl,rfl⟩);exact Mr
          . go_wp2;exact Mr
      case rest=>
       obtain⟨rfl,rfl⟩:=hcut;clear Y Z;by_cases T:0<r
       . have aE:b<d:=by have:=i.out;omega
         have s:Hid (e=(p++[(a.data.toList.drop b).take r])++u.tok (a.size-d) (a.data.toList.drop d)):=by
          show e=_;rw[i.out,g.out,B T,lp,tK (a.size-b-1) (a.size- (b+r)) _ (by simp;omega) (by simp)];simp
         clear g T;obtain⟨H,w⟩:=y (a.extract b d);have aD:∀c,(Instr.slice 9 (.string a) (some (.int .i64 (b:Int))) (some (.int .i64 (d:Int))) none).run prog c=.ok (.string H) c:=by
          intro c;rw[w];exact mx a b d m ac c
         have I:=l w;clear w;go_wp2_with(at_builtin;refine ke _ rfl (.tmp 34) (.tmp 39) 162 rfl c.heap.size 9 ar (.string ⟨#[]⟩) 1 16 oM af an ao ap rfl R _ _ _ rfl (h.alloc _) ⟨_,0,none⟩ 1 1 [.string H] rfl rfl ?c1 ?c2 ?c3 ?c4 ?c5 ?_);case c1=>
          exact nd
         case c2=>exact pI
         case c3=>exact gp
         case c4=>omega
         case c5=>simp;omega
         exact Iw
       . have ae:d=b:=by have:=i.out;omega
         rw[ae];clear i ac ab ae;rw[z T]at g;have E:u.blank a[b]=(((a[b].toNat:Int)==32) ||((a[b].toNat:Int)==9)):=by
          unfold u.blank;rw[dY];simp;omega
         cases k:((a[b].toNat:Int)==32)
         . cases F:((a[b].toNat:Int)==9)
           . rw[E,k,F,z (by decide)]at g;have d32:((a[b].toNat:Int) !=32)=true:=by rw[bne,k];rfl
             have d9:((a[b].toNat:Int) !=9)=true:=by rw[bne,F];rfl
             have s:Hid (e=(p++[[a[b]]])++u.tok (a.size- (b+1)) (a.data.toList.drop (b+1))):=by
              show e=_;rw[g.out,show a.size- (b+1)=a.size-b-1 by omega];simp
             clear g E k F;have O:(a.data.toList.drop b).take 1=[a[b]]:=by rw[eF a b aj];rfl
             have au:=l O;clear O;obtain⟨H,w⟩:=y (a.extract b (b+1));have aD:∀c,(Instr.slice 9 (.string a) (some (.int .i64 (b:Int))) (some (.int .i64 ((b:Int)+1))) none).run prog c=.ok (.string H) c:=by
              intro c;rw[w];exact mx a b (b+1) m m c
             have I:=l w;clear w;go_wp2_with(at_builtin;refine ke _ rfl (.tmp 52) (.tmp 58) 162 rfl c.heap.size 9 ar (.string ⟨#[]⟩) 1 16 oM af an ao ap rfl R _ _ _ rfl (h.alloc _) ⟨_,0,none⟩ 1 1 [.string H] rfl rfl ?c1 ?c2 ?c3 ?c4 ?c5 ?_);case c1=>
              exact nd
             case c2=>exact pI
             case c3=>exact gp
             case c4=>omega
             case c5=>simp;omega
             exact Iy
           . rw[E,k,F,show(false ||true)=true from rfl,B rfl]at g;have d32:((a[b].toNat:Int) !=32)=true:=by rw[bne,k];rfl
             have d9:((a[b].toNat:Int) !=9)=false:=by rw[bne,F];rfl
             have s:Hid (e=p++u.tok (a.size- (b+1)) (a.data.toList.drop (b+1))):=by
              show e=_;rw[g.out,show a.size- (b+1)=a.size-b-1 by omega]
             clear g E k F;exact Ms
         . rw[E,k,Bool.true_or,B rfl]at g;have d32:((a[b].toNat:Int) !=32)=false:=by rw[bne,k];rfl
           have s:Hid (e=p++u.tok (a.size- (b+1)) (a.data.toList.drop (b+1))):=by
            show e=_;rw[g.out,show a.size- (b+1)=a.size-b-1 by omega]
           clear g E k;exact Ms
  . exact IA
end Go.Proofs.YtmlgonbhoknoiabGreatDoor
