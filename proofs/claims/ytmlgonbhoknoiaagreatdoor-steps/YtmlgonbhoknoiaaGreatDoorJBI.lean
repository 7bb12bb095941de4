import Derived.Test.YtmlgonbhoknoiaaGreatDoorJBC
import Derived.Test.YtmlgonbhoknoiaaGreatDoorJBH
set_option maxHeartbeats 8000000
set_option maxRecDepth 100000
set_option linter.all false
namespace Go.Proofs.YtmlgonbhoknoiaaGreatDoor
open Go.RowKit Go.Proofs.Tryz
def BY (a:Nat):jQ a=eg a:=by
 unfold jQ eg cu;simp[mf,je]
def FC :eg 0=-1:=by simp[eg,cu]
def ajL {c:Nat}(l:c&&&2730=c)(e:eg c=-1):c=0:=by
 have d:¬cu c 11=true:=fun a=>by simp[eg,a]at e
 have g:¬cu c 3=true:=fun a=>by simp[eg,d,a]at e
 have h:¬cu c 7=true:=fun a=>by simp[eg,d,g,a]at e
 have i:¬cu c 9=true:=fun a=>by simp[eg,d,g,h,a]at e
 have j:¬cu c 1=true:=fun a=>by simp[eg,d,g,h,i,a]at e
 have k:¬cu c 5=true:=fun a=>by simp[eg,d,g,h,i,j,a]at e
 have f:∀b,c.testBit b=cu c b:=fun b=>by rw[mM];rfl
 refine hx fun b=>?_;rw[oT,xD l b];by_cases m:b<12
 . have:b=0\/b=1\/b=2\/b=3\/b=4\/b=5\/b=6\/b=7\/b=8\/b=9\/b=10\/b=11:=by omega
   rcases this with a|a|a|a|a|a|a|a|a|a|a|a<;>subst a
   . rw[show Nat.testBit 2730 0=false from by decide,lr]
   . rw[f];simp[j]
   . rw[show Nat.testBit 2730 2=false from by decide,lr]
   . rw[f];simp[g]
   . rw[show Nat.testBit 2730 4=false from by decide,lr]
   . rw[f];simp[k]
   . rw[show Nat.testBit 2730 6=false from by decide,lr]
   . rw[f];simp[h]
   . rw[show Nat.testBit 2730 8=false from by decide,lr]
   . rw[f];simp[i]
   . rw[show Nat.testBit 2730 10=false from by decide,lr]
   . rw[f];simp[d]
 . rw[Nat.testBit_lt_two_pow (x:=2730) (i:=b) (aR (show 2730<2^12 by decide) (cY (by decide) (by omega))),lr]
def CT {a:N}(f:aj a)(c:Nat)(b i:Bool):hh (ax a c b i) a.b=cy a:=by
 have q:=f.ok.mode;have l:bS (ax a c b i) a.b&&& (ax a c b i).enable=b2 a:=by rw[sF f];rfl
 unfold hh cy p2;rw[l,BY,BY,show(ax a c b i).mode=a.mode from rfl,show(ax a c b i).Wd=a.c.V5/2^3%2 from rfl,show(ax a c b i).Ws=a.c.V5/2^1%2 from rfl,show(ax a c b i).V9=a.c.V9 from rfl];have k:b2 a&&&2730=b2 a:=by unfold b2;exact j3 _ f.Wd
 have j:aI (b2 a) a.c.V9&&&2730=aI (b2 a) a.c.V9:=lc _ k;generalize aI (b2 a) a.c.V9=g at *;generalize b2 a&&&a.c.V9=e at *;have m:eg g=-1↔g=0:=⟨ajL j,fun d=>by rw[d];exact FC⟩;have n:e=0->eg e=-1:=fun d=>by rw[d];exact FC
 unfold ab;generalize decide (a.c.V5/2^3%2=1)=r;generalize decide (a.c.V5/2^1%2=1)=s;simp only[m];by_cases h:e=0
 . have o:=n h;rw[o];exact Lw
 . exact Lw
def E1 (a:Nat):aI a 3=a-a%4:=by
 unfold aI;rw[show(3:Nat)=2^2-1 from rfl,q6]
def BU (a b:Nat)(e:b<2147483648):kK a b true=gb a (b+2147483648):=by
 unfold kK gb;rw[E1,B rfl];have d:a&&&1=a%2:=by rw[show(1:Nat)=2^1-1 from rfl,q6]
 rw[d];by_cases c:a%2=1
 . rw[B (by simpa using c),B ⟨by omega,by omega⟩];unfold am;omega
 . rw[z (by simpa using c),z (by omega)]
def BT (b a:Nat)(c:a<2147483648):kK b a false=gb b a:=by
 unfold kK gb;rw[E1,z (by decide),z (by omega)]
def qf (b a c:Nat)(e:c=2^a):(!decide (b&&&c=0)).toNat=b/2^a%2:=by
 subst e;rw[dj];unfold ab;exact Av
def Ef (a:N)(c f e:Nat)(b i:Bool)(j:a.mode<=1):qA (ax a e b i) c a.V3 f=ax (iL a c f) e b i:=by
 have h:=qf a.c.V5 1 2 rfl;have g:(decide (a.mode=1)).toNat=a.mode:=by
  have:a.mode=0\/a.mode=1:=by omega
  rcases this with d|d<;>simp[d]
 unfold qA iL ax S h3;simp only[Q.mk.injEq,pU,pT,jW,h,g];simp
def Ee (a:N)(d f e:Nat)(c i:Bool)(g:a.mode=0\/a.mode=1\/a.mode=3):qz (ax a e c i) d a.V3 f=ax (iK a d f) e c i:=by
 have h:=qf a.c.V5 3 8 rfl;unfold qz iK ax S jp;simp only[Q.mk.injEq,pU,pT,Bu,jW,h];rcases g with b|b|b<;>simp[b]
def Ek {a:N}(g:aj a)(c:Nat)(b i:Bool)(e:Nat)(f:Bool):qE (ax a c b i) e f=gv a (if f=true then a.c.V9 else a.c.WG) e:=by
 unfold qE gv cu;rw[show(ax a c b i).mode=a.mode from rfl,show(ax a c b i).V9=a.c.V9 from rfl,show(ax a c b i).WG=a.c.WG from rfl];rcases g.ok.mode with d|d|d<;>simp[d]
def aaz {a:N}(e:aj a)(b g d:Nat)(c i:Bool)(f:b<2147483648):({aD a d c i with f:=hW (ax a d c i) b false a.V3 g,V3:=hX (ax a d c i) b false}:ai)=aD (iH a b g) d c i:=by
 unfold hW hX iH qy;rw[Ek e];simp only[ei,cS];by_cases hd:gv a a.c.WG b=true
 . have h:a.mode<=1:=by
    have:=e.ok.mode;unfold gv at hd;simp at hd;omega
   rw[B hd,B hd,B hd,Ef _ _ _ _ _ _ h,BT _ _ f];rfl
 . rw[z hd,z hd,z hd,Ee _ _ _ _ _ _ e.ok.mode,BT _ _ f];rfl
def aaL {a:N}(e:aj a)(b d:Nat)(c i:Bool)(f:b<2147483648):({aD a d c i with f:=hW (ax a d c i) b true a.V3 0,V3:=hX (ax a d c i) b true}:ai)=aD (iJ a b) d c i:=by
 unfold hW hX iJ qy;rw[Ek e];simp only[if_true];by_cases hd:gv a a.c.V9 b=true
 . have g:a.mode<=1:=by
    have:=e.ok.mode;unfold gv at hd;simp at hd;omega
   rw[B hd,B hd,B hd,Ef _ _ _ _ _ _ g,BU _ _ f];generalize b+2147483648=h;rfl
 . rw[z hd,z hd,z hd,Ee _ _ _ _ _ _ e.ok.mode,BU _ _ f];generalize b+2147483648=h;rfl
def Tj {a:N}(o:aj a)(c:Nat)(b i:Bool):({aD a c b i with res:=0,f:=jX (ax a c b i)}:ai)=aD (mo a) c b i:=by
 have h:jX (ax a c b i)=ax (mo a) c b i:=by
  have k:=e2 a.c.V5 2048 4096 R;have l:a.c.V5&&&2048=a.c.V5/2^11%2*2048:=dL _ 11;have m:a.c.V5&&&4096=a.c.V5/2^12%2*4096:=dL _ 12;have n:=jW a.c.V5;have e:(a.c.V5&&&6144=6144)↔a.c.V5/2048%4=3:=by
   simp only[Nat.reduceOr,Nat.reducePow]at *;omega
  by_cases d:a.c.V5/2048%4=3
  . have g:=qf a.c.V5 7 128 rfl;have f:gM a.c.V5=a.c.V5:=by unfold gM;rw[B (e.2 d)]
    exact Lx
  . have f:gM a.c.V5=aI a.c.V5 131072:=by unfold gM;rw[z (fun j=>d (e.1 j))]
    have g:=qf (aI a.c.V5 131072) 7 128 rfl;exact Lx
 rw[h];rfl
def VG {a:N}(f:aj a)(c:Nat)(b i:Bool):({aD a c b i with res:=0,f:=n9 (ax a c b i)}:ai)=aD (mA a) c b i:=by
 have d:n9 (ax a c b i)=ax (mA a) c b i:=by
  have e:=qf a.c.V5 5 32 rfl;unfold n9 mA hr ax S hv;simp only[Q.mk.injEq,pS,pU,pT,jW,e];simp
 rw[d];rfl
def Ta {b:N}(g:aj b)(e:Nat)(d i:Bool)(f:Int):p9 (ax b e d i) f=iw b f:=by
 unfold p9 iw ab;rw[show(ax b e d i).mode=b.mode from rfl,show(ax b e d i).WX=b.c.V5/2^22%2 from rfl,show(ax b e d i).WS=b.c.V5/2^21%2 from rfl,show(ax b e d i).WL=b.c.V5/2^20%2 from rfl];have h:=gh (b.c.V5/2^22);have j:=gh (b.c.V5/2^21);have k:=gh (b.c.V5/2^20);simp only[Nat.reducePow]at h j k;by_cases l:f=67
 . rcases g.ok.mode with a|a|a<;>simp[a,l]
 . by_cases m:f=68
   . rcases g.ok.mode with a|a|a<;>rcases h with c|c<;>simp[a,m,c]
   . by_cases n:f=69
     . rcases g.ok.mode with a|a|a<;>rcases j with c|c<;>simp[a,n,c]
     . rcases g.ok.mode with a|a|a<;>rcases k with c|c<;>simp[a,l,m,n,c]
def Ua {b:N}(g:aj b)(a:ak)(p:67<=a.op/\a.op<=70)(l e:Nat)(d i:Bool):
 iA (aD b e d i) a l=if iw b a.op=true then(((dv b a:Int),-1,0),aD (fT b a.op) e d i)else((0,2,(l:Int)),aD b e d i):=by
 unfold iA;rw[show(aD b e d i).f=ax b e d i from rfl,Ta g];by_cases h:iw b a.op=true
 . rw[B h,B h];have k:¬(a.op=3\/((5<=a.op/\a.op<=10)/\holds a.op (b.x.getD a.V1 0) (b.x.getD a.V6 0)=true)):=by
    rintro(m|⟨m,_⟩)<;>omega
   by_cases c:a.op=67
   . rw[B c,Tj g];unfold dv fT;rw[z k,z (by omega),B c,B c];rw[show(ax b e d i).Wm=b.c.Wm from rfl,oj _ g.ok.Wm]
   . rw[z c];by_cases f:a.op=68
     . rw[B f,VG g];unfold dv fT;rw[z k,z (by omega),z c,B f,z c,B f];rw[show(ax b e d i).Wu=b.c.Wu from rfl,oj _ g.ok.Wu]
     . rw[z f];have n:dv b a=am ((b.V3:Int)+a.V4):=by unfold dv;rw[z k,z (by omega),z c,z f,pR]
       have o:fT b a.op=if a.op=69 then{b with waits:=true}else b:=by unfold fT;rw[z c,z f]
       rw[n,o];by_cases j:a.op=69
       . rw[B j,B j];rfl
       . rw[z j,z j];rfl
 . rw[z h,z h]
def UX {X:N}(c:b1 X)(a:Nat)(d:2147483648<=a):(X.WU=a)↔hT X a=false:=by
 unfold b1 at c;unfold hT;rw[c];by_cases b:X.WU=a
 . have:¬X.WU=0:=by omega
   simp[b,this];omega
 . simp[b]
def Pn {b:N}(H:aj b)(L:b1 b)(a:ak)(e:Nat)(d i:Bool):
 ir (aD b e d i) a=((if(bI b a).1.1=-1 then(de b.V3 a:Int)else 0,(bI b a).1.1,((bI b a).1.2:Int)),aD (bI b a).2 e d i):=by
 have G:=xX H.ok.b (S b) (b.x.getD a.V1 0) (aJ a.op);unfold ir bI;rw[show(aD b e d i).x=b.x from rfl];by_cases k:b.x.getD a.V1 0%4=0
 . rw[B k,B k,show cV (aD b e d i).b (aD b e d i).f (b.x.getD a.V1 0) (ml a.op)=cV b.b (S b) (b.x.getD a.V1 0) (aJ a.op)from rfl];have y:(cV b.b (S b) (b.x.getD a.V1 0) (aJ a.op)).1.2=0->a1 ((cV b.b (S b) (b.x.getD a.V1 0) (aJ a.op)).1.1:Nat) 4 (cV b.b (S b) (b.x.getD a.V1 0) (aJ a.op)).2.o.length=true:=by
    unfold cV;generalize a3 b.b (S b) (b.x.getD a.V1 0) (aJ a.op)=r;unfold iN;by_cases u:r.1.2=0
    . rw[B u];by_cases t:a1 (r.1.1:Nat) 4 r.2.o.length=true
      . rw[B t];exact fun _=>t
      . rw[z t];intro q;cases q
    . rw[z u];intro q;exact absurd q u
   generalize cV b.b (S b) (b.x.getD a.V1 0) (aJ a.op)=c at G y;unfold v9 i8;by_cases h:c.1.2=0
   . rw[B h,B h];have g:=y h;have K:2147483648<=c.1.1:=Hh;have F:∀f:P,a1 (c.1.1:Nat) 4 f.o.length=true->ba f c.1.1 4=(cc f (c.1.1-2147483648) 4,f):=fun f o=>by
      unfold ba;rw[B o];rw[show((c.1.1:Int)-2147483648).toNat=c.1.1-2147483648 from by omega];rfl
     have w:∀(f:P) (s:Nat),a1 (c.1.1:Nat) 4 f.o.length=true->ch f c.1.1 4 s={f with o:=bu f.o (c.1.1-2147483648) 4 s}:=fun f s o=>by
      unfold ch;rw[B o];rw[show((c.1.1:Int)-2147483648).toNat=c.1.1-2147483648 from by omega];rfl
     rw[F _ g];have I:cc c.2 (c.1.1-2147483648) 4<4294967296:=by
      have:=p7 ((c.2.o.drop (c.1.1-2147483648)).take 4);have x:((c.2.o.drop (c.1.1-2147483648)).take 4).length<=4:=M;have j:256^((c.2.o.drop (c.1.1-2147483648)).take 4).length<=256^4:=cY R x;unfold cc;omega
     have Q:sm (aD (b.V7 c.2) e d i) a c.1.1 (cc c.2 (c.1.1-2147483648) 4)=aD (g7 (b.V7 c.2) a c.1.1) e d i:=by
      have C:=oj _ I;unfold sm g7;by_cases m:a.op=50
      . rw[B m,B m];unfold kV dW a6;rw[C];split<;>rfl
      . rw[z m,z m];by_cases n:a.op=51
        . rw[B n,B n];have A:=UX (X:=b.V7 c.2) L c.1.1 K;unfold hU;by_cases l:(b.V7 c.2).WU=c.1.1
          . rw[A.1 l,B (show(aD (b.V7 c.2) e d i).res=c.1.1 from l)];rw[w (aD (b.V7 c.2) e d i).b _ g];generalize c.1.1-2147483648=p;exact Lz
          . have D:hT (b.V7 c.2) c.1.1=true:=by
             cases O:hT (b.V7 c.2) c.1.1
             . exact absurd (A.2 O) l
             . rfl
            rw[D,z (show ¬(aD (b.V7 c.2) e d i).res=c.1.1 from l)];exact Lz
        . rw[z n,z n,w (aD (b.V7 c.2) e d i).b _ g];unfold kB;refine(qs (bZ (b.V7 c.2) _) e d i a.rd _).trans ?_;rw[C];generalize c.1.1-2147483648=p;rfl
     have v:({aD b e d i with b:=c.2}:ai)=aD (b.V7 c.2) e d i:=rfl;dsimp only at v|-;rw[v,Q,B rfl];exact Ly
   . rw[z h,z h];have x:=kL c.1.2 (aJ a.op);have j:¬a7 c.1.2 (aJ a.op)=-1:=J;show _=((if a7 (c.1.2:Int) (aJ a.op)=-1 then _ else _,_,_),_);rw[z j];rfl
 . rw[z k,z k];have j:¬h1 (aJ a.op)=-1:=by unfold h1;split<;>decide
   show _=((if h1 (aJ a.op)=-1 then _ else _,_,_),_);rw[z j];have E:(if a.op=50 then(4:Int)else 6)=h1 (aJ a.op):=by unfold h1 aJ;split<;>rfl
   rw[E]
def Bg (c:Int)(a b:Nat)(d:G a)(e:G b):am (cp c a b:Int)=cp c a b:=oj _ (sj c a b d e)
def fN (a:ak)(d:¬(61<=a.op/\a.op<=66)):cN a=0:=by unfold cN;rw[z (by rintro⟨b,c,_⟩;exact d ⟨b,c⟩)]
def nY (b:N)(a:ak)(f:¬(3<=a.op/\a.op<=10))(d:¬a.op=67)(e:¬a.op=68):dv b a=de b.V3 a:=by
 unfold dv;rw[z (by rintro(c|⟨c,_⟩)<;>omega),z (by omega),z d,z e]
def Qj {b:N}(p:aj b)(O:b1 b)(a:ak)(X:aU a)(V:1<=a.op)(W:a.op<=70)(M:61<=a.op/\a.op<=66->0<=a.V2/\a.V2<=4095)(d:Nat)(g:Nat)(f i:Bool):
 g9 (aD b g f i) a d=((if(bh b a d).1.1=-1 then(dv b a:Int)else 0,(bh b a d).1.1,((bh b a d).1.2:Int)),aD (bh b a d).2 g (f ||decide ((bh b a d).1.1=-1/\cN a=1)) (i ||decide ((bh b a d).1.1=-1/\cN a=4))):=by
 have t:∀S,b.x.getD S 0<4294967296:=p.ok.WE;have wi:G (am a.V2):=word_lt _;have h:∀(q:(Int×Nat)×N),cN a=0->aD q.2 g (f ||decide (q.1.1=-1/\cN a=1)) (i ||decide (q.1.1=-1/\cN a=4))=aD q.2 g f i:=fun q n=>by rw[n];simp
 unfold g9;by_cases v:a.op=1
 . rw[B v];have e:bv a.op=true:=pg;have c:bh b a d=((-1,0),a6 b a.rd (dp b a)):=ph;rw[c,h _ (fN a (by omega))];dsimp only;have l:dp b a=am (a.V2*4096):=by unfold dp;rw[B (by omega)]
   exact vC
 rw[z v];by_cases w:a.op=2
 . rw[B w];have e:bv a.op=true:=pg;have c:bh b a d=((-1,0),a6 b a.rd (dp b a)):=ph;rw[c,h _ (fN a (by omega))];dsimp only;have l:dp b a=am ((b.V3:Int)+a.V2*4096):=by unfold dp;rw[z (by omega),B (by omega)]
   exact vC
 rw[z w];by_cases D:a.op=3
 . rw[B D];have e:bv a.op=true:=pg;have c:bh b a d=((-1,0),a6 b a.rd (dp b a)):=ph;rw[c,h _ (fN a (by omega))];dsimp only;have l:dp b a=am (g3 (aD b g f i) a):=Hn;have s:dv b a=am ((b.V3:Int)+a.V2):=by unfold dv;rw[B (hz (by omega))]
   exact LD
 rw[z D];by_cases E:a.op=4
 . rw[B E];have e:bv a.op=true:=pg;have c:bh b a d=((-1,0),a6 b a.rd (dp b a)):=ph;rw[c,h _ (fN a (by omega))];dsimp only;have l:dp b a=am (g3 (aD b g f i) a):=Hn;have s:dv b a=am ((gK (aD b g f i) a:Int)- (gK (aD b g f i) a%2:Nat)):=by
    unfold dv;rw[z (by rintro(n|⟨n,_⟩)<;>omega),B (by omega)];have P:gK (aD b g f i) a<4294967296:=word_lt _;rw[show lf b a=gK (aD b g f i) a from rfl];generalize gK (aD b g f i) a=Y at P;unfold am;omega
   exact LD
 rw[z E];by_cases F:5<=a.op/\a.op<=10
 . rw[B F];have e:¬bv a.op=true:=jB;have c:bh b a d=((-1,0),b):=Ho;rw[c,h _ (fN a (by omega)),B rfl];have s:dv b a=am (if holds a.op (b.x.getD a.V1 0) (b.x.getD a.V6 0)=true then(b.V3:Int)+a.V2 else g3 (aD b g f i) a):=by
    unfold dv;by_cases r:holds a.op (b.x.getD a.V1 0) (b.x.getD a.V6 0)=true
    . rw[B (ci ⟨by omega,r⟩),B r]
    . rw[z (by rintro(n|⟨_,n⟩);omega;exact r n),z (by omega),z (by omega),z (by omega),z r];exact(pR b.V3 a).symm
   rw[s];rfl
 rw[z F];by_cases H:11<=a.op/\a.op<=15
 . rw[B H];have e:¬bv a.op=true:=jB;have c:bh b a d=bU b a:=by unfold bh;rw[z e,z (by omega),B (by omega)]
   rw[c,h _ (fN a (by omega)),nY b a (by omega) (by omega) (by omega)];exact SB p a m g f i
 rw[z H];by_cases I:16<=a.op/\a.op<=18
 . rw[B I];have e:¬bv a.op=true:=jB;have c:bh b a d=cB b a:=by unfold bh;rw[z e,z (by omega),z (by omega),B (by omega)]
   rw[c,h _ (fN a (by omega)),nY b a (by omega) (by omega) (by omega)];exact aah p a g f i
 rw[z I];by_cases J:19<=a.op/\a.op<=27
 . rw[B J];have e:bv a.op=true:=pg;have c:bh b a d=((-1,0),a6 b a.rd (dp b a)):=ph;rw[c,h _ (fN a (by omega))];dsimp only;have l:dp b a=am (cp a.op (b.x.getD a.V1 0) (am a.V2):Nat):=by rw[Bg _ _ _ (t _) wi];unfold dp;rw[z (by omega),z (by omega),z (by omega),B (by omega)]
   exact vC
 rw[z J];by_cases K:50<=a.op/\a.op<=60
 . rw[B K];have e:¬bv a.op=true:=jB;have c:bh b a d=bI b a:=by unfold bh;rw[z e,z (by omega),z (by omega),z (by omega),B (by omega)]
   rw[c,h _ (fN a (by omega)),nY b a (by omega) (by omega) (by omega)];exact Pn p O a g f i
 rw[z K];by_cases L:61<=a.op/\a.op<=66
 . rw[B L];have e:¬bv a.op=true:=jB;obtain⟨Q,R⟩:=M m;rw[PV p a Q R];by_cases j:fg b a=true
   . have c:bh b a d=((-1,0),dS b a):=by unfold bh;rw[z e,z (by omega),z (by omega),z (by omega),z (by omega),z (by omega),z (by omega),B ⟨by omega,j⟩]
     rw[c,B j,B rfl,nY b a (by omega) (by omega) (by omega)];have T:decide (cW a=true/\(a.V2=2816\/a.V2=2944))=decide ((-1:Int)=-1/\cN a=1):=by
      rw[yz];unfold cN;cases cW a
      . simp
      . rw[B ⟨by omega,by omega,rfl⟩];by_cases o:a.V2=2816\/a.V2=2944
        . simp[o]
        . rw[z o];simp only[o,and_false,false_iff];split<;>simp
     have U:decide (cW a=true/\(a.V2=2818\/a.V2=2946))=decide ((-1:Int)=-1/\cN a=4):=by
      rw[yz];unfold cN;cases cW a
      . simp
      . rw[B ⟨by omega,by omega,rfl⟩];by_cases o:a.V2=2816\/a.V2=2944
        . rw[B o];have:¬(a.V2=2818\/a.V2=2946):=by omega
          simp[this]
        . rw[z o];by_cases u:a.V2=2818\/a.V2=2946
          . simp[u]
          . simp[u]
     rw[T,U];rfl
   . have c:bh b a d=((2,d),b):=by unfold bh;rw[z e,z (by omega),z (by omega),z (by omega),z (by omega),z (by omega),z (by omega),z (fun k=>j k.2),z (fun k=>absurd k.1.1 (by omega))]
     rw[c,z j];simp
 rw[z L];by_cases x:a.op=38\/a.op=39
 . rw[B x];have e:¬bv a.op=true:=jB;have c:bh b a d=((-1,0),b):=Ho;rw[c,h _ (fN a (by omega)),B rfl,nY b a (by omega) (by omega) (by omega)];exact Ly
 rw[z x];by_cases y:a.op=40
 . rw[B y];have e:¬bv a.op=true:=jB;have c:bh b a d=((((8+b.mode:Nat):Int),0),b):=by unfold bh;rw[z e,z (by omega),z (by omega),z (by omega),z (by omega),B (by omega)]
   rw[c,h _ (fN a (by omega))];dsimp only;rw[z (by omega)];show((0,8+(b.mode:Int),0),aD b g f i)=_;rw[show(8+(b.mode:Int))=((8+b.mode:Nat):Int)from by omega];rfl
 rw[z y];by_cases A:a.op=41
 . rw[B A];have e:¬bv a.op=true:=jB;have c:bh b a d=((3,b.V3),b):=by unfold bh;rw[z e,z (by omega),z (by omega),z (by omega),z (by omega),z (by omega),B (by omega)]
   rw[c,h _ (fN a (by omega))];dsimp only;rw[z (by omega)];rfl
 rw[z A];by_cases C:67<=a.op/\a.op<=70
 . rw[B C];have e:¬bv a.op=true:=jB;rw[Ua p a (by omega)];by_cases j:iw b a.op=true
   . have c:bh b a d=((-1,0),fT b a.op):=by unfold bh;rw[z e,z (by omega),z (by omega),z (by omega),z (by omega),z (by omega),z (by omega),z (fun k=>absurd k.1.2 (by omega)),B ⟨by omega,j⟩]
     rw[c,h _ (fN a (by omega)),B j,B rfl];rfl
   . have c:bh b a d=((2,d),b):=by unfold bh;rw[z e,z (by omega),z (by omega),z (by omega),z (by omega),z (by omega),z (by omega),z (fun k=>absurd k.1.2 (by omega)),z (fun k=>j k.2)]
     rw[c,h _ (fN a (by omega)),z j];rfl
 rw[z C];have e:bv a.op=true:=pg;have c:bh b a d=((-1,0),a6 b a.rd (dp b a)):=ph;rw[c,h _ (fN a (by omega))];dsimp only;have l:dp b a=am (cp a.op (b.x.getD a.V1 0) (b.x.getD a.V6 0):Nat):=by rw[Bg _ _ _ (t _) (t _)];unfold dp;rw[z (by omega),z (by omega),z (by omega),z (by omega)]
 exact vC
def BG (b:N)(f:ak)(g:Nat):(bh b f g).2.V3=b.V3:=by
 have a:∀(c:N) (d e:Nat),(a6 c d e).V3=c.V3:=fun c d e=>by unfold a6;split<;>rfl
 unfold bh;split
 . exact a _ _ _
 split
 . rfl
 split
 . unfold bU jd;split
   . exact a _ _ _
   . rfl
 split
 . unfold cB la;split<;>rfl
 split
 . unfold bI;split
   . unfold i8 g7 kV hU kB hr;split
     . split
       . exact a _ _ _
       . split
         . refine(a _ _ _).trans ?_;cases hT (b.V7 _) _<;>rfl
         . exact a _ _ _
     . rfl
   . rfl
 split
 . rfl
 split
 . rfl
 split
 . unfold dS;dsimp only;split
   . rw[tA];exact a _ _ _
   . exact a _ _ _
 split
 . unfold fT mo mA hr;dsimp only;split
   . rfl
   . split
     . rfl
     . split<;>rfl
 . rfl
def PO (c:N)(a:ak)(d:Nat)(f:a.op=0):bh c a d=((2,d),c):=by
 unfold bh;have e:¬bv a.op=true:=jB;rw[z e,z (by omega),z (by omega),z (by omega),z (by omega),z (by omega),z (by omega),z (fun b=>absurd b.1.1 (by omega)),z (fun b=>absurd b.1.1 (by omega))]
theorem TO {i e:U}{g h:List L}{d:Nat}{c:List (List L)}(b:u.cb i g d c=some (e,h)):e.V4=i.V4/\e.op=i.op:=by
 unfold u.cb at b;split at b
 . cases a:u.fS i d (c[0]?.getD [])with
   |none=>rw[a]at b;simp at b
   |some f=>
    rw[a]at b;simp only[gR,b6,bM]at b;rw[<-b.1];unfold u.fS at a;split at a
    . simp at a
    . simp only[b6]at a;rw[<-a];split
      . exact⟨rfl,rfl⟩
      . split<;>exact⟨rfl,rfl⟩
 . split at b
   . cases a:u.fR i (c[0]?.getD []) (c[1]?.getD []) (c[2]?.getD []) (c[3]?.getD [])with
     |none=>rw[a]at b;simp at b
     |some f=>
      rw[a]at b;simp only[gR,b6,bM]at b;rw[<-b.1];unfold u.fR at a;split at a
      . split at a
        . simp at a
        . simp only[b6]at a;rw[<-a];exact⟨rfl,rfl⟩
      . simp at a
   . split at b
     . simp only[b6,bM]at b;rw[<-b.1];exact⟨rfl,rfl⟩
     . cases a:u.hg i d (c[0]?.getD [])with
       |none=>rw[a]at b;simp at b
       |some f=>
        rw[a]at b;simp only[gR,b6,bM]at b;rw[<-b.1];unfold u.hg at a;split at a
        . simp only[b6]at a;rw[<-a];split<;>exact⟨rfl,rfl⟩
        . simp at a
theorem w4 :∀(e:List Nat) (f:Bool) (i:U) (g:List L) (d:List (List L)) (b:U) (c:List L),u.bJ e f i g d=some (b,c)->b.V4=i.V4/\b.op=i.op
 |[],f,i,g,d,b,c,a=>by
  simp only[u.bJ]at a
  split at a
  . simp only[b6,bM]at a;rw[<-a.1];exact⟨rfl,rfl⟩
  . simp at a
 |n::e,f,i,g,d,b,c,a=>by
  simp only[u.bJ]at a
  split at a
  . simp at a
  . split at a
    . simp at a
    . next l m k=>
      have h:=TO k
      have j:=w4 e true l m _ b c a
      exact⟨j.1.trans h.1,j.2.trans h.2⟩
theorem E7 (c:List L):∀b a,(u.db c b a).2=0\/(u.db c b a).2=2\/(u.db c b a).2=4
 |0,a=>.inl rfl
 |b+1,a=>by
  have d:=E7 c b (a+1)
  unfold u.db
  split
  . right;right;rfl
  . split
    . right;left;rfl
    . exact d
def afA (a:List L):(u.bk a).2=0\/(u.bk a).2=2\/(u.bk a).2=4:=by
 unfold u.bk;split
 . right;right;rfl
 . split
   . right;left;rfl
   . exact E7 a 70 1
theorem Dg (b:List L)(c:List (List L)):(u.cA b c).2.i.V4=0\/(u.cA b c).2.i.V4=2\/(u.cA b c).2.i.V4=4:=by
 cases c with
 |nil=>left;rfl
 |cons a LT=>
  by_cases e:(u.bk a).2=0
  . rw[s5 b a LT e];left;rfl
  . cases d:u.bJ (u.eN (u.bk a).1) false ⟨(u.bk a).1,0,0,0,0,(u.bk a).2⟩ [] LT with
    |none=>rw[s4 b a LT e d];left;rfl
    |some r=>
     obtain⟨i,g⟩:=r;rw[s6 b a LT e d];have f:=(w4 _ _ _ _ _ _ _ d).1;have h:=afA a;simp only at f|-;omega
def UP (b:List (List L))(a:List aC):(u.cm b a).2.i.V4=0\/(u.cm b a).2.i.V4=2\/(u.cm b a).2.i.V4=4:=by
 unfold u.cm;split
 . split
   . split
     . left;rfl
     . exact Dg _ _
   . left;rfl
 . exact Dg _ _
theorem xe :∀(d:List (List L)) (b:List aC),Tidy b->Tidy (u.readAll b d).1
 |[],b,c=>c
 |f::d,b,c=>by
  simp only[u.readAll]
  split
  . refine xe d _ (fun e a=>?_)
    rcases List.mem_append.1 a with a|a
    . exact c e a
    . rw[yA]at a;rw[a];exact UP _ _
  . intro e a;simp at a
def Oc (b:K)(w:D):
 aa 73 #[.string b] (.tuple #[u.aG (u.g6 b.data.toList).1,j (u.g6 b.data.toList).2.1,j (u.g6 b.data.toList).2.2]) w:=by
 obtain⟨c,a⟩:=y (u.g6 b.data.toList);rw[<-a];unfold u.g6 at a;rw[show b.data.toList.length=b.size by rw[dQ];rfl]at a;by_cases C:4096<b.size
 . rw[B C]at a;have H:decide (4096< (b.size:Int))=true:=M;have HR:=l a;clear a;go_enter func73,ntmps73;go_wp2;exact AI
 rw[z C]at a;have H:decide (4096< (b.size:Int))=false:=M;have r:=Of b m w;obtain⟨k,F⟩:=y (1+u.hO b.data.toList);rw[<-F]at r a;have n:=l r;clear r F;by_cases E:256<k
 . rw[B E]at a;have I:decide (256< (k:Int))=true:=M;have HR:=l a;clear a;go_enter func73,ntmps73;go_wp2_with(go_at_call 123;refine n.out.mono ?_;rintro d e ⟨rfl,rfl⟩);exact AI
 rw[z E]at a;have I:decide (256< (k:Int))=false:=M;have t:=Ow b m w;have v:=xe (u.bP [] b.data.toList) [] (fun Z U=>by simp at U);obtain⟨P,G⟩:=y (u.readAll [] (u.bP [] b.data.toList));rw[<-G]at t a v;have A:=l t;have N:=l v;clear t G v;obtain⟨o,g,Q⟩:=P;by_cases f:g=0
 . have J:(g !=0)=false:=lS;have HR:Hid (c=u.lay o o 0 []):=by
    show c=_;rw[a];simp only;rw[B f]
   have L:=l f;clear a;go_enter func73,ntmps73;go_wp2_with fail;refine n.out.mono ?_;rintro d e ⟨rfl,rfl⟩;go_wp2_with fail;refine A.out.mono ?_;rintro d e ⟨⟨X,rfl,i⟩,h⟩;obtain⟨p,R,rfl,S,W,V⟩:=i L.out;have s:=Oi p R o S (l N.out) e (l V) (l W);rw[<-HR.out]at s;have x:=l s;obtain⟨Y,q⟩:=y (u.aG c.1);rw[<-q]at x;have O:=l q;clear s i q;go_wp2_with fail;refine x.out.mono ?_;rintro d ab ⟨rfl,T⟩;go_wp2;go_ret3;exact⟨by rw[<-O.out];rfl,h.trans (T.mono h.size)⟩
 . have J:(g !=0)=true:=lS;have HR:Hid (c=([],g,Q)):=by
    show c=_;rw[a];simp only;rw[z f]
   clear a;go_enter func73,ntmps73;go_wp2_with fail;refine n.out.mono ?_;rintro d e ⟨rfl,rfl⟩;go_wp2_with fail;refine A.out.mono ?_;rintro d e ⟨⟨X,rfl,i⟩,h⟩;clear i;go_wp2;go_ret3;exact⟨by rw[HR.out];rfl,h⟩
end Go.Proofs.YtmlgonbhoknoiaaGreatDoor
