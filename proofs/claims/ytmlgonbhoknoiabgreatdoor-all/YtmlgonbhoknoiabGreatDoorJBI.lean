import Derived.Test.YtmlgonbhoknoiabGreatDoorJBC
import Derived.Test.YtmlgonbhoknoiabGreatDoorJBH
set_option maxHeartbeats 8000000
set_option maxRecDepth 100000
set_option linter.all false
namespace Go.Proofs.YtmlgonbhoknoiabGreatDoor
open Go.RowKit Go.Proofs.Tryz
def Cj (a:Nat):jU a=ef a:=by
 unfold jU ef ct;simp[md,jh]
def FX :ef 0=-1:=by simp[ef,ct]
def ai7 {c:Nat}(l:c&&&2730=c)(e:ef c=-1):c=0:=by
 have d:¬ct c 11=true:=fun a=>by simp[ef,a]at e
 have g:¬ct c 3=true:=fun a=>by simp[ef,d,a]at e
 have h:¬ct c 7=true:=fun a=>by simp[ef,d,g,a]at e
 have i:¬ct c 9=true:=fun a=>by simp[ef,d,g,h,a]at e
 have j:¬ct c 1=true:=fun a=>by simp[ef,d,g,h,i,a]at e
 have k:¬ct c 5=true:=fun a=>by simp[ef,d,g,h,i,j,a]at e
 have f:∀b,c.testBit b=ct c b:=fun b=>by rw[mK];rfl
 refine hw fun b=>?_;rw[o7,xZ l b];by_cases m:b<12
 . have:b=0\/b=1\/b=2\/b=3\/b=4\/b=5\/b=6\/b=7\/b=8\/b=9\/b=10\/b=11:=by omega
   rcases this with a|a|a|a|a|a|a|a|a|a|a|a<;>subst a
   . rw[show Nat.testBit 2730 0=false from by decide,lo]
   . rw[f];simp[j]
   . rw[show Nat.testBit 2730 2=false from by decide,lo]
   . rw[f];simp[g]
   . rw[show Nat.testBit 2730 4=false from by decide,lo]
   . rw[f];simp[k]
   . rw[show Nat.testBit 2730 6=false from by decide,lo]
   . rw[f];simp[h]
   . rw[show Nat.testBit 2730 8=false from by decide,lo]
   . rw[f];simp[i]
   . rw[show Nat.testBit 2730 10=false from by decide,lo]
   . rw[f];simp[d]
 . rw[Nat.testBit_lt_two_pow (x:=2730) (i:=b) (aQ (show 2730<2^12 by decide) (cV (by decide) (by omega))),lo]
def Dd {a:N}(f:aj a)(c:Nat)(b i:Bool):hg (ax a c b i) a.b=cw a:=by
 have q:=f.ok.mode;have l:bQ (ax a c b i) a.b&&& (ax a c b i).enable=b1 a:=by rw[s4 f];rfl
 unfold hg cw qi;rw[l,Cj,Cj,show(ax a c b i).mode=a.mode from rfl,show(ax a c b i).Wd=a.c.V5/2^3%2 from rfl,show(ax a c b i).Ws=a.c.V5/2^1%2 from rfl,show(ax a c b i).V9=a.c.V9 from rfl];have k:b1 a&&&2730=b1 a:=by unfold b1;exact j6 _ f.Wd
 have j:aI (b1 a) a.c.V9&&&2730=aI (b1 a) a.c.V9:=lc _ k;generalize aI (b1 a) a.c.V9=g at *;generalize b1 a&&&a.c.V9=e at *;have m:ef g=-1↔g=0:=⟨ai7 j,fun d=>by rw[d];exact FX⟩;have n:e=0->ef e=-1:=fun d=>by rw[d];exact FX
 unfold aa;generalize decide (a.c.V5/2^3%2=1)=r;generalize decide (a.c.V5/2^1%2=1)=s;simp only[m];by_cases h:e=0
 . have o:=n h;rw[o];exact LR
 . exact LR
def Fm (a:Nat):aI a 3=a-a%4:=by
 unfold aI;rw[show(3:Nat)=2^2-1 from rfl,rp]
def Cf (a b:Nat)(e:b<2147483648):kM a b true=ga a (b+2147483648):=by
 unfold kM ga;rw[Fm,B rfl];have d:a&&&1=a%2:=by rw[show(1:Nat)=2^1-1 from rfl,rp]
 rw[d];by_cases c:a%2=1
 . rw[B (by simpa using c),B ⟨by omega,by omega⟩];unfold am;omega
 . rw[z (by simpa using c),z (by omega)]
def Ce (b a:Nat)(c:a<2147483648):kM b a false=ga b a:=by
 unfold kM ga;rw[Fm,z (by decide),z (by omega)]
def qw (b a c:Nat)(e:c=2^a):(!decide (b&&&c=0)).toNat=b/2^a%2:=by
 subst e;rw[dg];unfold aa;exact AR
def EA (a:N)(c f e:Nat)(b i:Bool)(j:a.mode<=1):qR (ax a e b i) c a.V3 f=ax (iM a c f) e b i:=by
 have h:=qw a.c.V5 1 2 rfl;have g:(decide (a.mode=1)).toNat=a.mode:=by
  have:a.mode=0\/a.mode=1:=by omega
  rcases this with d|d<;>simp[d]
 unfold qR iM ax S h3;simp only[Q.mk.injEq,qa,p9,jZ,h,g];simp
def Ez (a:N)(d f e:Nat)(c i:Bool)(g:a.mode=0\/a.mode=1\/a.mode=3):qQ (ax a e c i) d a.V3 f=ax (iL a d f) e c i:=by
 have h:=qw a.c.V5 3 8 rfl;unfold qQ iL ax S js;simp only[Q.mk.injEq,qa,p9,BP,jZ,h];rcases g with b|b|b<;>simp[b]
def EF {a:N}(g:aj a)(c:Nat)(b i:Bool)(e:Nat)(f:Bool):qV (ax a c b i) e f=gu a (if f=true then a.c.V9 else a.c.WG) e:=by
 unfold qV gu ct;rw[show(ax a c b i).mode=a.mode from rfl,show(ax a c b i).V9=a.c.V9 from rfl,show(ax a c b i).WG=a.c.WG from rfl];rcases g.ok.mode with d|d|d<;>simp[d]
def VV {a:N}(e:aj a)(b g d:Nat)(c i:Bool)(f:b<2147483648):({aD a d c i with f:=hW (ax a d c i) b false a.V3 g,V3:=hX (ax a d c i) b false}:ai)=aD (iI a b g) d c i:=by
 unfold hW hX iI qP;rw[EF e];simp only[eh,cP];by_cases hd:gu a a.c.WG b=true
 . have h:a.mode<=1:=by
    have:=e.ok.mode;unfold gu at hd;simp at hd;omega
   rw[B hd,B hd,B hd,EA _ _ _ _ _ _ h,Ce _ _ f];rfl
 . rw[z hd,z hd,z hd,Ez _ _ _ _ _ _ e.ok.mode,Ce _ _ f];rfl
def VY {a:N}(e:aj a)(b d:Nat)(c i:Bool)(f:b<2147483648):({aD a d c i with f:=hW (ax a d c i) b true a.V3 0,V3:=hX (ax a d c i) b true}:ai)=aD (iK a b) d c i:=by
 unfold hW hX iK qP;rw[EF e];simp only[if_true];by_cases hd:gu a a.c.V9 b=true
 . have g:a.mode<=1:=by
    have:=e.ok.mode;unfold gu at hd;simp at hd;omega
   rw[B hd,B hd,B hd,EA _ _ _ _ _ _ g,Cf _ _ f];generalize b+2147483648=h;rfl
 . rw[z hd,z hd,z hd,Ez _ _ _ _ _ _ e.ok.mode,Cf _ _ f];generalize b+2147483648=h;rfl
def S4 {a:N}(o:aj a)(c:Nat)(b i:Bool):({aD a c b i with res:=0,f:=j0 (ax a c b i)}:ai)=aD (mm a) c b i:=by
 have h:j0 (ax a c b i)=ax (mm a) c b i:=by
  have k:=e2 a.c.V5 2048 4096 R;have l:a.c.V5&&&2048=a.c.V5/2^11%2*2048:=dJ _ 11;have m:a.c.V5&&&4096=a.c.V5/2^12%2*4096:=dJ _ 12;have n:=jZ a.c.V5;have e:(a.c.V5&&&6144=6144)↔a.c.V5/2048%4=3:=by
   simp only[Nat.reduceOr,Nat.reducePow]at *;omega
  by_cases d:a.c.V5/2048%4=3
  . have g:=qw a.c.V5 7 128 rfl;have f:gL a.c.V5=a.c.V5:=by unfold gL;rw[B (e.2 d)]
    exact LS
  . have f:gL a.c.V5=aI a.c.V5 131072:=by unfold gL;rw[z (fun j=>d (e.1 j))]
    have g:=qw (aI a.c.V5 131072) 7 128 rfl;exact LS
 rw[h];rfl
def Vj {a:N}(f:aj a)(c:Nat)(b i:Bool):({aD a c b i with res:=0,f:=od (ax a c b i)}:ai)=aD (my a) c b i:=by
 have d:od (ax a c b i)=ax (my a) c b i:=by
  have e:=qw a.c.V5 5 32 rfl;unfold od my hq ax S ht;simp only[Q.mk.injEq,p8,qa,p9,jZ,e];simp
 rw[d];rfl
def SV {b:N}(g:aj b)(e:Nat)(d i:Bool)(f:Int):qq (ax b e d i) f=ix b f:=by
 unfold qq ix aa;rw[show(ax b e d i).mode=b.mode from rfl,show(ax b e d i).WX=b.c.V5/2^22%2 from rfl,show(ax b e d i).WS=b.c.V5/2^21%2 from rfl,show(ax b e d i).WL=b.c.V5/2^20%2 from rfl];have h:=gg (b.c.V5/2^22);have j:=gg (b.c.V5/2^21);have k:=gg (b.c.V5/2^20);simp only[Nat.reducePow]at h j k;by_cases l:f=67
 . rcases g.ok.mode with a|a|a<;>simp[a,l]
 . by_cases m:f=68
   . rcases g.ok.mode with a|a|a<;>rcases h with c|c<;>simp[a,m,c]
   . by_cases n:f=69
     . rcases g.ok.mode with a|a|a<;>rcases j with c|c<;>simp[a,n,c]
     . rcases g.ok.mode with a|a|a<;>rcases k with c|c<;>simp[a,l,m,n,c]
def TN {b:N}(g:aj b)(a:ak)(p:67<=a.op/\a.op<=70)(l e:Nat)(d i:Bool):
 iB (aD b e d i) a l=if ix b a.op=true then(((dt b a:Int),-1,0),aD (fS b a.op) e d i)else((0,2,(l:Int)),aD b e d i):=by
 unfold iB;rw[show(aD b e d i).f=ax b e d i from rfl,SV g];by_cases h:ix b a.op=true
 . rw[B h,B h];have k:¬(a.op=3\/((5<=a.op/\a.op<=10)/\holds a.op (b.x.getD a.V1 0) (b.x.getD a.V6 0)=true)):=by
    rintro(m|⟨m,_⟩)<;>omega
   by_cases c:a.op=67
   . rw[B c,S4 g];unfold dt fS;rw[z k,z (by omega),B c,B c];rw[show(ax b e d i).Wm=b.c.Wm from rfl,oo _ g.ok.Wm]
   . rw[z c];by_cases f:a.op=68
     . rw[B f,Vj g];unfold dt fS;rw[z k,z (by omega),z c,B f,z c,B f];rw[show(ax b e d i).Wu=b.c.Wu from rfl,oo _ g.ok.Wu]
     . rw[z f];have n:dt b a=am ((b.V3:Int)+a.V4):=by unfold dt;rw[z k,z (by omega),z c,z f,p7]
       have o:fS b a.op=if a.op=69 then{b with waits:=true}else b:=by unfold fS;rw[z c,z f]
       rw[n,o];by_cases j:a.op=69
       . rw[B j,B j];rfl
       . rw[z j,z j];rfl
 . rw[z h,z h]
def UA {X:N}(c:b0 X)(a:Nat)(d:2147483648<=a):(X.WU=a)↔hT X a=false:=by
 unfold b0 at c;unfold hT;rw[c];by_cases b:X.WU=a
 . have:¬X.WU=0:=by omega
   simp[b,this];omega
 . simp[b]
def PR {b:N}(H:aj b)(L:b0 b)(a:ak)(e:Nat)(d i:Bool):
 is (aD b e d i) a=((if(bG b a).1.1=-1 then(db b.V3 a:Int)else 0,(bG b a).1.1,((bG b a).1.2:Int)),aD (bG b a).2 e d i):=by
 have G:=yj H.ok.b (S b) (b.x.getD a.V1 0) (aJ a.op);unfold is bG;rw[show(aD b e d i).x=b.x from rfl];by_cases k:b.x.getD a.V1 0%4=0
 . rw[B k,B k,show cS (aD b e d i).b (aD b e d i).f (b.x.getD a.V1 0) (mj a.op)=cS b.b (S b) (b.x.getD a.V1 0) (aJ a.op)from rfl];have y:(cS b.b (S b) (b.x.getD a.V1 0) (aJ a.op)).1.2=0->aZ ((cS b.b (S b) (b.x.getD a.V1 0) (aJ a.op)).1.1:Nat) 4 (cS b.b (S b) (b.x.getD a.V1 0) (aJ a.op)).2.o.length=true:=by
    unfold cS;generalize a2 b.b (S b) (b.x.getD a.V1 0) (aJ a.op)=r;unfold iO;by_cases u:r.1.2=0
    . rw[B u];by_cases t:aZ (r.1.1:Nat) 4 r.2.o.length=true
      . rw[B t];exact fun _=>t
      . rw[z t];intro q;cases q
    . rw[z u];intro q;exact absurd q u
   generalize cS b.b (S b) (b.x.getD a.V1 0) (aJ a.op)=c at G y;unfold wy jb;by_cases h:c.1.2=0
   . rw[B h,B h];have g:=y h;have K:2147483648<=c.1.1:=HB;have F:∀f:P,aZ (c.1.1:Nat) 4 f.o.length=true->a9 f c.1.1 4=(cb f (c.1.1-2147483648) 4,f):=fun f o=>by
      unfold a9;rw[B o];rw[show((c.1.1:Int)-2147483648).toNat=c.1.1-2147483648 from by omega];rfl
     have w:∀(f:P) (s:Nat),aZ (c.1.1:Nat) 4 f.o.length=true->cg f c.1.1 4 s={f with o:=bt f.o (c.1.1-2147483648) 4 s}:=fun f s o=>by
      unfold cg;rw[B o];rw[show((c.1.1:Int)-2147483648).toNat=c.1.1-2147483648 from by omega];rfl
     rw[F _ g];have I:cb c.2 (c.1.1-2147483648) 4<4294967296:=by
      have:=qo ((c.2.o.drop (c.1.1-2147483648)).take 4);have x:((c.2.o.drop (c.1.1-2147483648)).take 4).length<=4:=M;have j:256^((c.2.o.drop (c.1.1-2147483648)).take 4).length<=256^4:=cV R x;unfold cb;omega
     have Q:sM (aD (b.V7 c.2) e d i) a c.1.1 (cb c.2 (c.1.1-2147483648) 4)=aD (g6 (b.V7 c.2) a c.1.1) e d i:=by
      have C:=oo _ I;unfold sM g6;by_cases m:a.op=50
      . rw[B m,B m];unfold kW dV a5;rw[C];split<;>rfl
      . rw[z m,z m];by_cases n:a.op=51
        . rw[B n,B n];have A:=UA (X:=b.V7 c.2) L c.1.1 K;unfold hU;by_cases l:(b.V7 c.2).WU=c.1.1
          . rw[A.1 l,B (show(aD (b.V7 c.2) e d i).res=c.1.1 from l)];rw[w (aD (b.V7 c.2) e d i).b _ g];generalize c.1.1-2147483648=p;exact LV
          . have D:hT (b.V7 c.2) c.1.1=true:=by
             cases O:hT (b.V7 c.2) c.1.1
             . exact absurd (A.2 O) l
             . rfl
            rw[D,z (show ¬(aD (b.V7 c.2) e d i).res=c.1.1 from l)];exact LV
        . rw[z n,z n,w (aD (b.V7 c.2) e d i).b _ g];unfold kG;refine(qJ (bY (b.V7 c.2) _) e d i a.rd _).trans ?_;rw[C];generalize c.1.1-2147483648=p;rfl
     have v:({aD b e d i with b:=c.2}:ai)=aD (b.V7 c.2) e d i:=rfl;dsimp only at v|-;rw[v,Q,B rfl];exact LU
   . rw[z h,z h];have x:=kN c.1.2 (aJ a.op);have j:¬a6 c.1.2 (aJ a.op)=-1:=J;show _=((if a6 (c.1.2:Int) (aJ a.op)=-1 then _ else _,_,_),_);rw[z j];rfl
 . rw[z k,z k];have j:¬h1 (aJ a.op)=-1:=by unfold h1;split<;>decide
   show _=((if h1 (aJ a.op)=-1 then _ else _,_,_),_);rw[z j];have E:(if a.op=50 then(4:Int)else 6)=h1 (aJ a.op):=by unfold h1 aJ;split<;>rfl
   rw[E]
def BB (c:Int)(a b:Nat)(d:G a)(e:G b):am (co c a b:Int)=co c a b:=oo _ (sK c a b d e)
def fM (a:ak)(d:¬(61<=a.op/\a.op<=66)):cL a=0:=by unfold cL;rw[z (by rintro⟨b,c,_⟩;exact d ⟨b,c⟩)]
def n2 (b:N)(a:ak)(f:¬(3<=a.op/\a.op<=10))(d:¬a.op=67)(e:¬a.op=68):dt b a=db b.V3 a:=by
 unfold dt;rw[z (by rintro(c|⟨c,_⟩)<;>omega),z (by omega),z d,z e]
def Qx {b:N}(p:aj b)(O:b0 b)(a:ak)(X:aT a)(V:1<=a.op)(W:a.op<=70)(M:61<=a.op/\a.op<=66->0<=a.V2/\a.V2<=4095)(d:Nat)(g:Nat)(f i:Bool):
 g8 (aD b g f i) a d=((if(bg b a d).1.1=-1 then(dt b a:Int)else 0,(bg b a d).1.1,((bg b a d).1.2:Int)),aD (bg b a d).2 g (f ||decide ((bg b a d).1.1=-1/\cL a=1)) (i ||decide ((bg b a d).1.1=-1/\cL a=4))):=by
 have t:∀S,b.x.getD S 0<4294967296:=p.ok.WE;have wi:G (am a.V2):=word_lt _;have h:∀(q:(Int×Nat)×N),cL a=0->aD q.2 g (f ||decide (q.1.1=-1/\cL a=1)) (i ||decide (q.1.1=-1/\cL a=4))=aD q.2 g f i:=fun q n=>by rw[n];simp
 unfold g8;by_cases v:a.op=1
 . rw[B v];have e:bu a.op=true:=pw;have c:bg b a d=((-1,0),a5 b a.rd (dm b a)):=px;rw[c,h _ (fM a (by omega))];dsimp only;have l:dm b a=am (a.V2*4096):=by unfold dm;rw[B (by omega)]
   exact vY
 rw[z v];by_cases w:a.op=2
 . rw[B w];have e:bu a.op=true:=pw;have c:bg b a d=((-1,0),a5 b a.rd (dm b a)):=px;rw[c,h _ (fM a (by omega))];dsimp only;have l:dm b a=am ((b.V3:Int)+a.V2*4096):=by unfold dm;rw[z (by omega),B (by omega)]
   exact vY
 rw[z w];by_cases D:a.op=3
 . rw[B D];have e:bu a.op=true:=pw;have c:bg b a d=((-1,0),a5 b a.rd (dm b a)):=px;rw[c,h _ (fM a (by omega))];dsimp only;have l:dm b a=am (g2 (aD b g f i) a):=HH;have s:dt b a=am ((b.V3:Int)+a.V2):=by unfold dt;rw[B (hy (by omega))]
   exact LZ
 rw[z D];by_cases E:a.op=4
 . rw[B E];have e:bu a.op=true:=pw;have c:bg b a d=((-1,0),a5 b a.rd (dm b a)):=px;rw[c,h _ (fM a (by omega))];dsimp only;have l:dm b a=am (g2 (aD b g f i) a):=HH;have s:dt b a=am ((gJ (aD b g f i) a:Int)- (gJ (aD b g f i) a%2:Nat)):=by
    unfold dt;rw[z (by rintro(n|⟨n,_⟩)<;>omega),B (by omega)];have P:gJ (aD b g f i) a<4294967296:=word_lt _;rw[show ld b a=gJ (aD b g f i) a from rfl];generalize gJ (aD b g f i) a=Y at P;unfold am;omega
   exact LZ
 rw[z E];by_cases F:5<=a.op/\a.op<=10
 . rw[B F];have e:¬bu a.op=true:=jE;have c:bg b a d=((-1,0),b):=HI;rw[c,h _ (fM a (by omega)),B rfl];have s:dt b a=am (if holds a.op (b.x.getD a.V1 0) (b.x.getD a.V6 0)=true then(b.V3:Int)+a.V2 else g2 (aD b g f i) a):=by
    unfold dt;by_cases r:holds a.op (b.x.getD a.V1 0) (b.x.getD a.V6 0)=true
    . rw[B (ch ⟨by omega,r⟩),B r]
    . rw[z (by rintro(n|⟨_,n⟩);omega;exact r n),z (by omega),z (by omega),z (by omega),z r];exact(p7 b.V3 a).symm
   rw[s];rfl
 rw[z F];by_cases H:11<=a.op/\a.op<=15
 . rw[B H];have e:¬bu a.op=true:=jE;have c:bg b a d=bT b a:=by unfold bg;rw[z e,z (by omega),B (by omega)]
   rw[c,h _ (fM a (by omega)),n2 b a (by omega) (by omega) (by omega)];exact Sv p a m g f i
 rw[z H];by_cases I:16<=a.op/\a.op<=18
 . rw[B I];have e:¬bu a.op=true:=jE;have c:bg b a d=cz b a:=by unfold bg;rw[z e,z (by omega),z (by omega),B (by omega)]
   rw[c,h _ (fM a (by omega)),n2 b a (by omega) (by omega) (by omega)];exact VC p a g f i
 rw[z I];by_cases J:19<=a.op/\a.op<=27
 . rw[B J];have e:bu a.op=true:=pw;have c:bg b a d=((-1,0),a5 b a.rd (dm b a)):=px;rw[c,h _ (fM a (by omega))];dsimp only;have l:dm b a=am (co a.op (b.x.getD a.V1 0) (am a.V2):Nat):=by rw[BB _ _ _ (t _) wi];unfold dm;rw[z (by omega),z (by omega),z (by omega),B (by omega)]
   exact vY
 rw[z J];by_cases K:50<=a.op/\a.op<=60
 . rw[B K];have e:¬bu a.op=true:=jE;have c:bg b a d=bG b a:=by unfold bg;rw[z e,z (by omega),z (by omega),z (by omega),B (by omega)]
   rw[c,h _ (fM a (by omega)),n2 b a (by omega) (by omega) (by omega)];exact PR p O a g f i
 rw[z K];by_cases L:61<=a.op/\a.op<=66
 . rw[B L];have e:¬bu a.op=true:=jE;obtain⟨Q,R⟩:=M m;rw[Qr p a Q R];by_cases j:ff b a=true
   . have c:bg b a d=((-1,0),dR b a):=by unfold bg;rw[z e,z (by omega),z (by omega),z (by omega),z (by omega),z (by omega),z (by omega),B ⟨by omega,j⟩]
     rw[c,B j,B rfl,n2 b a (by omega) (by omega) (by omega)];have T:decide (cT a=true/\(a.V2=2816\/a.V2=2944))=decide ((-1:Int)=-1/\cL a=1):=by
      rw[yV];unfold cL;cases cT a
      . simp
      . rw[B ⟨by omega,by omega,rfl⟩];by_cases o:a.V2=2816\/a.V2=2944
        . simp[o]
        . rw[z o];simp only[o,and_false,false_iff];split<;>simp
     have U:decide (cT a=true/\(a.V2=2818\/a.V2=2946))=decide ((-1:Int)=-1/\cL a=4):=by
      rw[yV];unfold cL;cases cT a
      . simp
      . rw[B ⟨by omega,by omega,rfl⟩];by_cases o:a.V2=2816\/a.V2=2944
        . rw[B o];have:¬(a.V2=2818\/a.V2=2946):=by omega
          simp[this]
        . rw[z o];by_cases u:a.V2=2818\/a.V2=2946
          . simp[u]
          . simp[u]
     rw[T,U];rfl
   . have c:bg b a d=((2,d),b):=by unfold bg;rw[z e,z (by omega),z (by omega),z (by omega),z (by omega),z (by omega),z (by omega),z (fun k=>j k.2),z (fun k=>absurd k.1.1 (by omega))]
     rw[c,z j];simp
 rw[z L];by_cases x:a.op=38\/a.op=39
 . rw[B x];have e:¬bu a.op=true:=jE;have c:bg b a d=((-1,0),b):=HI;rw[c,h _ (fM a (by omega)),B rfl,n2 b a (by omega) (by omega) (by omega)];exact LU
 rw[z x];by_cases y:a.op=40
 . rw[B y];have e:¬bu a.op=true:=jE;have c:bg b a d=((((8+b.mode:Nat):Int),0),b):=by unfold bg;rw[z e,z (by omega),z (by omega),z (by omega),z (by omega),B (by omega)]
   rw[c,h _ (fM a (by omega))];dsimp only;rw[z (by omega)];show((0,8+(b.mode:Int),0),aD b g f i)=_;rw[show(8+(b.mode:Int))=((8+b.mode:Nat):Int)from by omega];rfl
 rw[z y];by_cases A:a.op=41
 . rw[B A];have e:¬bu a.op=true:=jE;have c:bg b a d=((3,b.V3),b):=by unfold bg;rw[z e,z (by omega),z (by omega),z (by omega),z (by omega),z (by omega),B (by omega)]
   rw[c,h _ (fM a (by omega))];dsimp only;rw[z (by omega)];rfl
 rw[z A];by_cases C:67<=a.op/\a.op<=70
 . rw[B C];have e:¬bu a.op=true:=jE;rw[TN p a (by omega)];by_cases j:ix b a.op=true
   . have c:bg b a d=((-1,0),fS b a.op):=by unfold bg;rw[z e,z (by omega),z (by omega),z (by omega),z (by omega),z (by omega),z (by omega),z (fun k=>absurd k.1.2 (by omega)),B ⟨by omega,j⟩]
     rw[c,h _ (fM a (by omega)),B j,B rfl];rfl
   . have c:bg b a d=((2,d),b):=by unfold bg;rw[z e,z (by omega),z (by omega),z (by omega),z (by omega),z (by omega),z (by omega),z (fun k=>absurd k.1.2 (by omega)),z (fun k=>j k.2)]
     rw[c,h _ (fM a (by omega)),z j];rfl
 rw[z C];have e:bu a.op=true:=pw;have c:bg b a d=((-1,0),a5 b a.rd (dm b a)):=px;rw[c,h _ (fM a (by omega))];dsimp only;have l:dm b a=am (co a.op (b.x.getD a.V1 0) (b.x.getD a.V6 0):Nat):=by rw[BB _ _ _ (t _) (t _)];unfold dm;rw[z (by omega),z (by omega),z (by omega),z (by omega)]
 exact vY
def B1 (b:N)(f:ak)(g:Nat):(bg b f g).2.V3=b.V3:=by
 have a:∀(c:N) (d e:Nat),(a5 c d e).V3=c.V3:=fun c d e=>by unfold a5;split<;>rfl
 unfold bg;split
 . exact a _ _ _
 split
 . rfl
 split
 . unfold bT jg;split
   . exact a _ _ _
   . rfl
 split
 . unfold cz la;split<;>rfl
 split
 . unfold bG;split
   . unfold jb g6 kW hU kG hq;split
     . split
       . exact a _ _ _
       . split
         . refine(a _ _ _).trans ?_;cases hT (b.V7 _) _<;>rfl
         . exact a _ _ _
     . rfl
   . rfl
 split
 . rfl
 split
 . rfl
 split
 . unfold dR;dsimp only;split
   . rw[tW];exact a _ _ _
   . exact a _ _ _
 split
 . unfold fS mm my hq;dsimp only;split
   . rfl
   . split
     . rfl
     . split<;>rfl
 . rfl
def Qk (c:N)(a:ak)(d:Nat)(f:a.op=0):bg c a d=((2,d),c):=by
 unfold bg;have e:¬bu a.op=true:=jE;rw[z e,z (by omega),z (by omega),z (by omega),z (by omega),z (by omega),z (by omega),z (fun b=>absurd b.1.1 (by omega)),z (fun b=>absurd b.1.1 (by omega))]
theorem Tq {i e:U}{g h:List L}{d:Nat}{c:List (List L)}(b:u.ca i g d c=some (e,h)):e.V4=i.V4/\e.op=i.op:=by
 unfold u.ca at b;split at b
 . cases a:u.fR i d (c[0]?.getD [])with
   |none=>rw[a]at b;simp at b
   |some f=>
    rw[a]at b;simp only[gQ,b5,bK]at b;rw[<-b.1];unfold u.fR at a;split at a
    . simp at a
    . simp only[b5]at a;rw[<-a];split
      . exact⟨rfl,rfl⟩
      . split<;>exact⟨rfl,rfl⟩
 . split at b
   . cases a:u.fQ i (c[0]?.getD []) (c[1]?.getD []) (c[2]?.getD []) (c[3]?.getD [])with
     |none=>rw[a]at b;simp at b
     |some f=>
      rw[a]at b;simp only[gQ,b5,bK]at b;rw[<-b.1];unfold u.fQ at a;split at a
      . split at a
        . simp at a
        . simp only[b5]at a;rw[<-a];exact⟨rfl,rfl⟩
      . simp at a
   . split at b
     . simp only[b5,bK]at b;rw[<-b.1];exact⟨rfl,rfl⟩
     . cases a:u.hf i d (c[0]?.getD [])with
       |none=>rw[a]at b;simp at b
       |some f=>
        rw[a]at b;simp only[gQ,b5,bK]at b;rw[<-b.1];unfold u.hf at a;split at a
        . simp only[b5]at a;rw[<-a];split<;>exact⟨rfl,rfl⟩
        . simp at a
theorem xq :∀(e:List Nat) (f:Bool) (i:U) (g:List L) (d:List (List L)) (b:U) (c:List L),u.bH e f i g d=some (b,c)->b.V4=i.V4/\b.op=i.op
 |[],f,i,g,d,b,c,a=>by
  simp only[u.bH]at a
  split at a
  . simp only[b5,bK]at a;rw[<-a.1];exact⟨rfl,rfl⟩
  . simp at a
 |n::e,f,i,g,d,b,c,a=>by
  simp only[u.bH]at a
  split at a
  . simp at a
  . split at a
    . simp at a
    . next l m k=>
      have h:=Tq k
      have j:=xq e true l m _ b c a
      exact⟨j.1.trans h.1,j.2.trans h.2⟩
theorem Ft (c:List L):∀b a,(u.c8 c b a).2=0\/(u.c8 c b a).2=2\/(u.c8 c b a).2=4
 |0,a=>.inl rfl
 |b+1,a=>by
  have d:=Ft c b (a+1)
  unfold u.c8
  split
  . right;right;rfl
  . split
    . right;left;rfl
    . exact d
def aeW (a:List L):(u.bj a).2=0\/(u.bj a).2=2\/(u.bj a).2=4:=by
 unfold u.bj;split
 . right;right;rfl
 . split
   . right;left;rfl
   . exact Ft a 70 1
theorem DA (b:List L)(c:List (List L)):(u.cy b c).2.i.V4=0\/(u.cy b c).2.i.V4=2\/(u.cy b c).2.i.V4=4:=by
 cases c with
 |nil=>left;rfl
 |cons a LT=>
  by_cases e:(u.bj a).2=0
  . rw[ts b a LT e];left;rfl
  . cases d:u.bH (u.eN (u.bj a).1) false ⟨(u.bj a).1,0,0,0,0,(u.bj a).2⟩ [] LT with
    |none=>rw[tr b a LT e d];left;rfl
    |some r=>
     obtain⟨i,g⟩:=r;rw[tt b a LT e d];have f:=(xq _ _ _ _ _ _ _ d).1;have h:=aeW a;simp only at f|-;omega
def Us (b:List (List L))(a:List aC):(u.cl b a).2.i.V4=0\/(u.cl b a).2.i.V4=2\/(u.cl b a).2.i.V4=4:=by
 unfold u.cl;split
 . split
   . split
     . left;rfl
     . exact DA _ _
   . left;rfl
 . exact DA _ _
theorem xA :∀(d:List (List L)) (b:List aC),Tidy b->Tidy (u.readAll b d).1
 |[],b,c=>c
 |f::d,b,c=>by
  simp only[u.readAll]
  split
  . refine xA d _ (fun e a=>?_)
    rcases List.mem_append.1 a with a|a
    . exact c e a
    . rw[yW]at a;rw[a];exact Us _ _
  . intro e a;simp at a
def OA (b:K)(w:D):
 ac 67 #[.string b] (.tuple #[u.aG (u.g5 b.data.toList).1,j (u.g5 b.data.toList).2.1,j (u.g5 b.data.toList).2.2]) w:=by
 obtain⟨c,a⟩:=y (u.g5 b.data.toList);rw[<-a];unfold u.g5 at a;rw[show b.data.toList.length=b.size by rw[dP];rfl]at a;by_cases C:4096<b.size
 . rw[B C]at a;have H:decide (4096< (b.size:Int))=true:=M;have HR:=l a;clear a;go_enter func67,ntmps67;go_wp2;exact A4
 rw[z C]at a;have H:decide (4096< (b.size:Int))=false:=M;have r:=OD b m w;obtain⟨k,F⟩:=y (1+u.hO b.data.toList);rw[<-F]at r a;have n:=l r;clear r F;by_cases E:256<k
 . rw[B E]at a;have I:decide (256< (k:Int))=true:=M;have HR:=l a;clear a;go_enter func67,ntmps67;go_wp2_with(go_at_call 113;refine n.out.mono ?_;rintro d e ⟨rfl,rfl⟩);exact A4
 rw[z E]at a;have I:decide (256< (k:Int))=false:=M;have t:=OR b m w;have v:=xA (u.bN [] b.data.toList) [] (fun Z U=>by simp at U);obtain⟨P,G⟩:=y (u.readAll [] (u.bN [] b.data.toList));rw[<-G]at t a v;have A:=l t;have N:=l v;clear t G v;obtain⟨o,g,Q⟩:=P;by_cases f:g=0
 . have J:(g !=0)=false:=lS;have HR:Hid (c=u.lay o o 0 []):=by
    show c=_;rw[a];simp only;rw[B f]
   have L:=l f;clear a;go_enter func67,ntmps67;go_wp2_with fail;refine n.out.mono ?_;rintro d e ⟨rfl,rfl⟩;go_wp2_with fail;refine A.out.mono ?_;rintro d e ⟨⟨X,rfl,i⟩,h⟩;obtain⟨p,R,rfl,S,W,V⟩:=i L.out;have s:=OG p R o S (l N.out) e (l V) (l W);rw[<-HR.out]at s;have x:=l s;obtain⟨Y,q⟩:=y (u.aG c.1);rw[<-q]at x;have O:=l q;clear s i q;go_wp2_with fail;refine x.out.mono ?_;rintro d aa ⟨rfl,T⟩;go_wp2;go_ret3;exact⟨by rw[<-O.out];rfl,h.trans (T.mono h.size)⟩
 . have J:(g !=0)=true:=lS;have HR:Hid (c=([],g,Q)):=by
    show c=_;rw[a];simp only;rw[z f]
   clear a;go_enter func67,ntmps67;go_wp2_with fail;refine n.out.mono ?_;rintro d e ⟨rfl,rfl⟩;go_wp2_with fail;refine A.out.mono ?_;rintro d e ⟨⟨X,rfl,i⟩,h⟩;clear i;go_wp2;go_ret3;exact⟨by rw[HR.out];rfl,h⟩
end Go.Proofs.YtmlgonbhoknoiabGreatDoor
