import Derived.Test.YtmlgonbhoknoiaaGreatDoorJQ
set_option maxHeartbeats 8000000
set_option maxRecDepth 100000
set_option linter.all false
namespace Go.Proofs.YtmlgonbhoknoiaaGreatDoor
open Go.RowKit Go.Proofs.Tryz
namespace Nm
def sP (a:Int):K:=
 bif a==55 then⟨#[97,109,111,97,110,100,46,119]⟩else
 bif a==56 then⟨#[97,109,111,111,114,46,119]⟩else
 bif a==57 then⟨#[97,109,111,109,105,110,46,119]⟩else
 bif a==58 then⟨#[97,109,111,109,97,120,46,119]⟩else
 bif a==59 then⟨#[97,109,111,109,105,110,117,46,119]⟩else
 bif a==60 then⟨#[97,109,111,109,97,120,117,46,119]⟩else
 bif a==61 then⟨#[99,115,114,114,119]⟩else
 bif a==62 then⟨#[99,115,114,114,115]⟩else
 bif a==63 then⟨#[99,115,114,114,99]⟩else
 bif a==64 then⟨#[99,115,114,114,119,105]⟩else
 bif a==65 then⟨#[99,115,114,114,115,105]⟩else
 bif a==66 then⟨#[99,115,114,114,99,105]⟩else
 bif a==67 then⟨#[109,114,101,116]⟩else
 bif a==68 then⟨#[115,114,101,116]⟩else
 bif a==69 then⟨#[119,102,105]⟩else
 bif a==70 then⟨#[115,102,101,110,99,101,46,118,109,97]⟩else
 bif a==71 then⟨#[46,119,111,114,100]⟩else
 bif a==72 then⟨#[46,104,97,108,102]⟩else
 ⟨#[]⟩
def qc (a:Int):K:=
 bif a==37 then⟨#[97,110,100]⟩else
 bif a==38 then⟨#[102,101,110,99,101]⟩else
 bif a==39 then⟨#[102,101,110,99,101,46,105]⟩else
 bif a==40 then⟨#[101,99,97,108,108]⟩else
 bif a==41 then⟨#[101,98,114,101,97,107]⟩else
 bif a==42 then⟨#[109,117,108]⟩else
 bif a==43 then⟨#[109,117,108,104]⟩else
 bif a==44 then⟨#[109,117,108,104,115,117]⟩else
 bif a==45 then⟨#[109,117,108,104,117]⟩else
 bif a==46 then⟨#[100,105,118]⟩else
 bif a==47 then⟨#[100,105,118,117]⟩else
 bif a==48 then⟨#[114,101,109]⟩else
 bif a==49 then⟨#[114,101,109,117]⟩else
 bif a==50 then⟨#[108,114,46,119]⟩else
 bif a==51 then⟨#[115,99,46,119]⟩else
 bif a==52 then⟨#[97,109,111,115,119,97,112,46,119]⟩else
 bif a==53 then⟨#[97,109,111,97,100,100,46,119]⟩else
 bif a==54 then⟨#[97,109,111,120,111,114,46,119]⟩else
 sP a
def qe (a:Int):K:=
 bif a==28 then⟨#[97,100,100]⟩else
 bif a==29 then⟨#[115,117,98]⟩else
 bif a==30 then⟨#[115,108,108]⟩else
 bif a==31 then⟨#[115,108,116]⟩else
 bif a==32 then⟨#[115,108,116,117]⟩else
 bif a==33 then⟨#[120,111,114]⟩else
 bif a==34 then⟨#[115,114,108]⟩else
 bif a==35 then⟨#[115,114,97]⟩else
 bif a==36 then⟨#[111,114]⟩else
 qc a
def qd (a:Int):K:=
 bif a==19 then⟨#[97,100,100,105]⟩else
 bif a==20 then⟨#[115,108,116,105]⟩else
 bif a==21 then⟨#[115,108,116,105,117]⟩else
 bif a==22 then⟨#[120,111,114,105]⟩else
 bif a==23 then⟨#[111,114,105]⟩else
 bif a==24 then⟨#[97,110,100,105]⟩else
 bif a==25 then⟨#[115,108,108,105]⟩else
 bif a==26 then⟨#[115,114,108,105]⟩else
 bif a==27 then⟨#[115,114,97,105]⟩else
 qe a
def name (a:Int):K:=
 bif a==1 then⟨#[108,117,105]⟩else
 bif a==2 then⟨#[97,117,105,112,99]⟩else
 bif a==3 then⟨#[106,97,108]⟩else
 bif a==4 then⟨#[106,97,108,114]⟩else
 bif a==5 then⟨#[98,101,113]⟩else
 bif a==6 then⟨#[98,110,101]⟩else
 bif a==7 then⟨#[98,108,116]⟩else
 bif a==8 then⟨#[98,103,101]⟩else
 bif a==9 then⟨#[98,108,116,117]⟩else
 bif a==10 then⟨#[98,103,101,117]⟩else
 bif a==11 then⟨#[108,98]⟩else
 bif a==12 then⟨#[108,104]⟩else
 bif a==13 then⟨#[108,119]⟩else
 bif a==14 then⟨#[108,98,117]⟩else
 bif a==15 then⟨#[108,104,117]⟩else
 bif a==16 then⟨#[115,98]⟩else
 bif a==17 then⟨#[115,104]⟩else
 bif a==18 then⟨#[115,119]⟩else
 qd a
def shape (a:Int):K:=
 bif a==1 ||a==2 then⟨#[100,105]⟩else
 bif a==3 then⟨#[100,106]⟩else
 bif a==4 then⟨#[100,109]⟩else
 bif decide (5<=a)&&decide (a<=10)then⟨#[115,116,106]⟩else
 bif decide (11<=a)&&decide (a<=15)then⟨#[100,109]⟩else
 bif decide (16<=a)&&decide (a<=18)then⟨#[116,109]⟩else
 bif (decide (19<=a)&&decide (a<=27)) ||a==38 ||a==39 ||a==50 then⟨#[100,115,105]⟩else
 bif (decide (28<=a)&&decide (a<=37)) ||(decide (42<=a)&&decide (a<=49))then⟨#[100,115,116]⟩else
 bif decide (51<=a)&&decide (a<=60)then⟨#[100,116,115,105]⟩else
 bif decide (61<=a)&&decide (a<=63)then⟨#[100,105,115]⟩else
 bif decide (64<=a)&&decide (a<=66)then⟨#[100,105,117]⟩else
 bif a==70 then⟨#[115,116]⟩else
 bif a==71 ||a==72 then⟨#[105]⟩else⟨#[]⟩
end Nm
def Ok (a:Int)(b:D):
 O 405 #[j a] (.string (Nm.sP a)) b:=by
 go_enter func405,ntmps405;exact Ii
def Oj (a:Int)(b:D):
 O 382 #[j a] (.string (Nm.qc a)) b:=by
 go_enter func382,ntmps382;go_wp2_with(go_at_call 405;refine(Ok a _).mono ?_;rintro d c ⟨rfl,rfl⟩);all_goals go_ret
 all_goals exact⟨by simp[Nm.qc, *],rfl⟩
def Om (a:Int)(b:D):
 O 354 #[j a] (.string (Nm.qe a)) b:=by
 go_enter func354,ntmps354;go_wp2_with(go_at_call 382;refine(Oj a _).mono ?_;rintro d c ⟨rfl,rfl⟩);all_goals go_ret
 all_goals exact⟨by simp[Nm.qe, *],rfl⟩
def Ol (a:Int)(b:D):
 O 304 #[j a] (.string (Nm.qd a)) b:=by
 go_enter func304,ntmps304;go_wp2_with(go_at_call 354;refine(Om a _).mono ?_;rintro d c ⟨rfl,rfl⟩);all_goals go_ret
 all_goals exact⟨by simp[Nm.qd, *],rfl⟩
def jL (a:Int)(b:D):
 O 219 #[j a] (.string (Nm.name a)) b:=by
 go_enter func219,ntmps219;go_wp2_with(go_at_call 304;refine(Ol a _).mono ?_;rintro d c ⟨rfl,rfl⟩);all_goals go_ret
 all_goals exact⟨by simp[Nm.name, *],rfl⟩
def aa6 (a:Int)(b:D):
 O 387 #[j a] (.string (Nm.sP a)) b:=by
 go_enter func387,ntmps387;exact Ii
def aa5 (a:Int)(b:D):
 O 356 #[j a] (.string (Nm.qc a)) b:=by
 go_enter func356,ntmps356;go_wp2_with(go_at_call 387;refine(aa6 a _).mono ?_;rintro d c ⟨rfl,rfl⟩);all_goals go_ret
 all_goals exact⟨by simp[Nm.qc, *],rfl⟩
def aa8 (a:Int)(b:D):
 O 307 #[j a] (.string (Nm.qe a)) b:=by
 go_enter func307,ntmps307;go_wp2_with(go_at_call 356;refine(aa5 a _).mono ?_;rintro d c ⟨rfl,rfl⟩);all_goals go_ret
 all_goals exact⟨by simp[Nm.qe, *],rfl⟩
def aa7 (a:Int)(b:D):
 O 224 #[j a] (.string (Nm.qd a)) b:=by
 go_enter func224,ntmps224;go_wp2_with(go_at_call 307;refine(aa8 a _).mono ?_;rintro d c ⟨rfl,rfl⟩);all_goals go_ret
 all_goals exact⟨by simp[Nm.qd, *],rfl⟩
def tr (a:Int)(b:D):
 O 150 #[j a] (.string (Nm.name a)) b:=by
 go_enter func150,ntmps150;go_wp2_with(go_at_call 224;refine(aa7 a _).mono ?_;rintro d c ⟨rfl,rfl⟩);all_goals go_ret
 all_goals exact⟨by simp[Nm.name, *],rfl⟩
def Vk (a:Int):Nm.shape a=
 if a=1\/a=2 then⟨#[100,105]⟩else
 if a=3 then⟨#[100,106]⟩else
 if a=4 then⟨#[100,109]⟩else
 if 5<=a/\a<=10 then⟨#[115,116,106]⟩else
 if 11<=a/\a<=15 then⟨#[100,109]⟩else
 if 16<=a/\a<=18 then⟨#[116,109]⟩else
 if(19<=a/\a<=27)\/a=38\/a=39\/a=50 then⟨#[100,115,105]⟩else
 if(28<=a/\a<=37)\/(42<=a/\a<=49)then⟨#[100,115,116]⟩else
 if 51<=a/\a<=60 then⟨#[100,116,115,105]⟩else
 if 61<=a/\a<=63 then⟨#[100,105,115]⟩else
 if 64<=a/\a<=66 then⟨#[100,105,117]⟩else
 if a=70 then⟨#[115,116]⟩else
 if a=71\/a=72 then⟨#[105]⟩else⟨#[]⟩:=by
 unfold Nm.shape;simp only[Bool.cond_eq_ite,cR,cX,cC,bb,or_assoc]
def A3 (a:Int)(b:D):
 O 222 #[j a] (.string (Nm.shape a)) b:=by
 go_enter func222,ntmps222;exact Ij
def Es (a:Int)(b:D):
 O 151 #[j a] (.string (Nm.shape a)) b:=by
 go_enter func151,ntmps151;exact Ij
theorem n0 :∀(c a b:Nat),a<=c->(a |||b)+(a&&&b)=a+b
 |0,a,b,d=>by
  obtain rfl:a=0:=by omega
  simp
 |c+1,a,b,d=>by
  by_cases e:a=0
  . subst e;simp
  have j:=n0 c (a/2) (b/2) (by omega)
  have f:(a |||b)/2=a/2 |||b/2:=Nat.or_div_two
  have g:(a&&&b)/2=a/2&&&b/2:=Nat.and_div_two
  have h:(a |||b)%2=1↔a%2=1\/b%2=1:=Nat.or_mod_two_eq_one
  have i:(a&&&b)%2=1↔a%2=1/\b%2=1:=Nat.and_mod_two_eq_one
  omega
theorem FD :∀(c a b:Nat),a<=c->(a^^^b)+2* (a&&&b)=a+b
 |0,a,b,d=>by
  obtain rfl:a=0:=by omega
  simp
 |c+1,a,b,d=>by
  by_cases e:a=0
  . subst e;simp
  have j:=FD c (a/2) (b/2) (by omega)
  have f:(a^^^b)/2=a/2^^^b/2:=Nat.xor_div_two
  have g:(a&&&b)/2=a/2&&&b/2:=Nat.and_div_two
  have h:(a^^^b)%2=1↔ ¬(a%2=1↔b%2=1):=Nat.xor_mod_two_eq_one
  have i:(a&&&b)%2=1↔a%2=1/\b%2=1:=Nat.and_mod_two_eq_one
  omega
def Pb (a b i:Nat):(a%2^(i+1)&&&b%2^(i+1))=(if a/2^i%2=1/\b/2^i%2=1 then 2^i else 0)+(a%2^i&&&b%2^i):=by
 have j:(a%2^i&&&b%2^i)<2^i:=bL gO (gc _ (lp i));have f:(if a/2^i%2=1/\b/2^i%2=1 then 2^i else 0)=2^i* (if a/2^i%2=1/\b/2^i%2=1 then 1 else 0):=by split<;>simp
 rw[f];refine hx fun c=>?_;rw[Nat.testBit_two_pow_mul_add _ j,dd,mL,mL];by_cases d:c<i
 . rw[B d,dd,mL,mL];simp[d,Nat.lt_succ_of_lt d]
 . rw[z d];by_cases h:c=i
   . subst h;simp only[mM,Nat.lt_succ_self,decide_true,h4,tP,lq,ou];by_cases e:a/2^c%2=1<;>by_cases g:b/2^c%2=1<;>simp[e,g]
   . have e:¬c<i+1:=J;simp only[e,ov,jq,Bool.and_self];split
     . rw[mM,yc (show 1<2^(c-i)from Nat.one_lt_two_pow (by omega))];rfl
     . simp
def b4 (b:Int):Nat->List Int
 |0=>[]
 |a+1=>b4 b a++[b/256^a%256]
def Tryz.Yu :(prog.info? 5).map (fun i=>(i.zero,i.size,i.bytes))=some (some (.int .u8 0),1,1):=by kernel_rfl
def TW {d:Program}{c:D}{n m:Nat}{j:Value}{a:List Int}(src e:TypeId){b:TypeId}(l:d.underlying src=some (.slice b))(k:d.underlying b=some (.int .u8))(hd:d.underlying e=some .string)
 (f:c.ownsRow n b 1 j m (a.map (Value.int .u8))):(convert src e j).run d c=.ok (.string (strOfNums a)) c:=by
 have h:=f.1;rcases f.2 with⟨rfl,rfl⟩|⟨g,o,q,rfl,r,s,rest⟩
 . have:a=[]:=by simpa using h
   subst this;exact run_convert_bytes_nil c src b l k 0 0 e hd
 . simp at h;refine tQ c src b l k g 0 m o a h (fun i t=>?_) e hd;have:=f.cells (g:=g) rfl i (.int .u8 (a.getD i 0)) (by simp[qY,List.getD,fa (show i<a.length by omega)]);have p:(⟨g,0,none⟩:Addr).add i=⟨g,0+i,none⟩:=by unfold Addr.add;split<;>simp_all
   rw[p]at this;exact this
def se (d:Int)(c:Nat)(B:c<=8)(a:D):
 aa 177 #[j d,j c] (.string (strOfNums (b4 d c))) a:=by
 have A:∀a,(Instr.makeSlice 64 (.int .i64 0) (.int .i64 8)).run prog a=.ok (.slice (some ⟨a.heap.size,0,none⟩) 0 8) (a.alloc (.cells #[.int .u8 0,.int .u8 0,.int .u8 0,.int .u8 0,.int .u8 0,.int .u8 0,.int .u8 0,.int .u8 0] 5)):=fun _=>by kernel_rfl
 obtain⟨p,k,m,n,o⟩:=hy Tryz.Yu;go_enter func177,ntmps177;exact IP
def qG (d:Int)(c:Nat)(B:c<=8)(a:D):
 aa 99 #[j d,j c] (.string (strOfNums (b4 d c))) a:=by
 have A:∀a,(Instr.makeSlice 64 (.int .i64 0) (.int .i64 8)).run prog a=.ok (.slice (some ⟨a.heap.size,0,none⟩) 0 8) (a.alloc (.cells #[.int .u8 0,.int .u8 0,.int .u8 0,.int .u8 0,.int .u8 0,.int .u8 0,.int .u8 0,.int .u8 0] 5)):=fun _=>by kernel_rfl
 obtain⟨p,k,m,n,o⟩:=hy Tryz.Yu;go_enter func99,ntmps99;exact IP
def vY {a b c:K}(e:a++b=c)(f:a.size+b.size<=100000)(d:D):(Op.stringOp .add a b).run prog d=.ok (.string c) d:=IQ
theorem kR (b:Int):∀a,(b4 b a).length=a
 |0=>rfl
 |a+1=>by simp[b4,kR b a]
def oa (a:List Int):(strOfNums a).size=a.length:=by
 unfold strOfNums;simp[ByteArray.size]
def nx (p:Option Addr)(b a:Nat):Obj:=.cells #[.slice p b a,j 0,j 0,j 0,j 0,j 0,j 0,j 0,.bool false,.string ⟨#[]⟩,.string ⟨#[]⟩] 212
def pY (p:Option Addr):Obj:=.cells #[.pointer p,j 0,j 0,j 0,j 0,j 0,j 0,j 0,j 0,j 0,j 0,j 0,j 0,j 0,j 0,j 0,j 0,j 0,j 0,j 0,j 0,j 0,j 0,j 0,j 0,j 0,j 0,j 0,j 0,j 0,j 0,j 0,j 0,j 0,j 0,j 0,j 0,.bool false,.bool false] 218
namespace C
def fi (b:L)(a:Nat):Bool:=!(b==48&&a==1)&&!(b==49&&a==0)
def fits :List L->Nat->Bool
 |[],_=>true
 |c::b,a=>fi c (a%2)&&fits b (a/2)
def val (a:L->Bool):List L->Nat->Nat
 |[],_=>0
 |d::c,b=>bif a d then b%2+2*val a c (b/2)else val a c (b/2)
def ao (a:L->Bool):List L->Nat
 |[]=>0
 |c::b=>bif a c then 1+ao a b else ao a b
def isLet (a:L):Bool:=decide (97<=a.toNat)&&decide (a.toNat<=122)
def sum :List L->Nat->Nat
 |[],_=>0
 |b::c,a=>(bif isLet b then(a%2)*2^(b.toNat-97)else 0)+sum c (a/2)
def high :List L->Nat
 |[]=>0
 |b::a=>bif isLet b then max (2^(b.toNat-97)) (high a)else high a
theorem mG (a:L->Bool):∀b c,val a b c<2^ao a b
 |[],_=>by simp[val,ao]
 |f::b,c=>by
  have d:=mG a b (c/2)
  cases e:a f<;>simp[val,ao,e]
  . exact d
  . rw[ow];omega
def BK (b a:Nat):b/2^(a+1)=b/2^a/2:=by
 rw[gd,gP]
def OG (d a b e:Nat)(l:e<=1)(j:d/2^a%2=0):
 (e*2^a+d)/2^b%2=if b=a then e else d/2^b%2:=by
 -- N=a*2^(x+1)+r,r<2^x
 have h:0<2^a:=Ax;have o:d%2^a<2^a:=gc _ h;have k:d=2^a* (d/2^a)+d%2^a:=(Nat.div_add_mod d (2^a)).symm;by_cases f:b=a
 . subst f;rw[B rfl,qZ,yd _ _ h];omega
 . rw[z f];rcases Nat.lt_or_gt_of_ne f with n|m
   . -- e<x
     obtain⟨c,rfl⟩:∃c,a=b+1+c:=⟨a-b-1,by omega⟩;have g:(2:Nat)^(b+1+c)=2^b* (2*2^c):=LC;have i:0<2^b:=Ax;rw[g,show e* (2^b* (2*2^c))=(2* (e*2^c))*2^b by ac_rfl,qZ,yd _ _ i];omega
   . -- e>x
     obtain⟨c,rfl⟩:∃c,b=a+1+c:=⟨b-a-1,by omega⟩;have g:(2:Nat)^(a+1+c)=2^a* (2*2^c):=LC;rw[g,<-gP,<-gP,<-gP,<-gP];rw[qZ (e*2^a),yd _ _ h];have:(d/2^a+e)/2=d/2^a/2:=by omega
     rw[this]
def apart :List L->Bool
 |[]=>true
 |b::a=>(!isLet b ||!a.contains b)&&apart a
theorem xE :∀(c:List L) (f:Nat) (b:L),apart c=true->isLet b=true->
 (c.contains b=false->sum c f/2^(b.toNat-97)%2=0)/\
 (∀d (a:d<c.length),c[d]=b->sum c f/2^(b.toNat-97)%2=f/2^d%2)
 |[],f,b,_,_=>by simp[sum]
 |e::c,f,b,p,o=>by
  simp only[apart,cX,cR,ox]at p
  obtain⟨u,q⟩:=p
  have l:=xE c (f/2) b q o
  cases h:isLet e with
  |false=>
   have j:e≠b:=by intro a;rw[a,o]at h;cases h
   simp only[sum,h,bi,eh]
   refine⟨fun i=>l.1 ?_,fun d k g=>?_⟩
   . simp at i|-;exact i.2
   . cases d with
     |zero=>exact absurd g j
     |succ d=>
      have:=l.2 d (by simpa using k) (by simpa using g)
      rw[this,BK,gP,gP,fl]
  |true=>
   have n:c.contains e=false:=by
    rcases u with a|a
    . rw[h]at a;cases a
    . exact a
   have r:=(xE c (f/2) e q h).1 n;simp only[sum,h,cv];have s:f%2<=1:=by omega
   have v:=OG (sum c (f/2)) (e.toNat-97) (b.toNat-97) (f%2) s r;have m:b.toNat-97=e.toNat-97↔b=e:=by
    simp[isLet]at h o;constructor
    . intro a;apply oy.1;omega
    . intro a;rw[a]
   rw[v];refine⟨fun i=>?_,fun d k g=>?_⟩
   . have j:b≠e:=by intro a;simp[a]at i
     rw[z (by rw[m];exact j)];exact l.1 (by simp at i|-;exact i.2)
   . cases d with
     |zero=>simp at g;rw[B (by rw[m];exact g.symm)];simp
     |succ d=>
      have j:b≠e:=by
       intro a;have:c[d]'(by simpa using k)=e:=by simpa[a]using g
       have t:e∈c:=by rw[<-this];exact gf _
       simp at n;exact n t
      rw[z (by rw[m];exact j)];have:=l.2 d (by simpa using k) (by simpa using g);rw[this,BK,gP,gP,fl]
def eX :List L->Nat
 |[]=>0
 |a::b=>(bif isLet a then 2^(a.toNat-97)else 0)+eX b
theorem tk :∀b a,sum b a<=eX b
 |[],_=>by simp[sum,eX]
 |c::b,a=>by
  have f:=tk b (a/2)
  have d:a%2<=1:=by omega
  cases e:isLet c<;>simp only[sum,eX,e,bi,cv]
  . omega
  . have:a%2*2^(c.toNat-97)<=1*2^(c.toNat-97):=j7 _ d
    omega
def kO (a:List L)(c:Bool)(b:Nat):Int:=
 if c=true/\high a<=sum a b then(sum a b:Int)-2* (high a:Int)else(sum a b:Int)
def draw :List L->Int->Int->Int->Int->Nat
 |[],_,_,_,_=>0
 |e::f,b,c,d,a=>
  if e=49 then 1+2*draw f b c d a
  else if e=68\/e=66 then(b%2).toNat+2*draw f (b/2) c d a
  else if e=83 then(c%2).toNat+2*draw f b (c/2) d a
  else if e=84 then(d%2).toNat+2*draw f b c (d/2) a
  else if isLet e=true then(a/2^(e.toNat-97)%2).toNat+2*draw f b c d a
  else 2*draw f b c d a
theorem kJ :∀a c d e b,draw a c d e b<2^a.length
 |[],_,_,_,_=>by simp[draw]
 |j::a,c,d,e,b=>by
  have f:=kJ a c d e b
  have g:=kJ a (c/2) d e b
  have h:=kJ a c (d/2) e b
  have i:=kJ a c d (e/2) b
  simp only[draw,c9,gd]
  repeat' split
  all_goals omega
def known (a:L):Bool:=a==48 ||a==49 ||a==68 ||a==66 ||a==83 ||a==84 ||isLet a
theorem nD :∀(b:List L) (d:Nat) (i j k g:Int),b.all known=true->d<2^b.length->fits b d=true->
 i%2^ao (fun a=>a==68 ||a==66) b=val (fun a=>a==68 ||a==66) b d->
 j%2^ao (· ==83) b=val (· ==83) b d->
 k%2^ao (· ==84) b=val (· ==84) b d->
 (∀f (c:f<b.length),isLet b[f]=true->g/2^(b[f].toNat-97)%2=((d/2^f%2:Nat):Int))->
 draw b i j k g=d
 |[],d,_,_,_,_,_,D,_,_,_,_,_=>by simp[draw]at *;omega
 |a::b,d,i,j,k,g,n,D,h,hd,o,p,C=>by
  simp only[ye,cX]at n
  simp only[fits,cX]at h
  have u:d/2<2^b.length:=by simp[gd]at D;omega
  have q:∀f (c:f<b.length),isLet b[f]=true->g/2^(b[f].toNat-97)%2=((d/2/2^f%2:Nat):Int):=by
   intro f c E;have:=C (f+1) (by simpa using c) (by simpa using E);simp only[List.getElem_cons_succ]at this;rw[this,gd,fl,gP]
  have step:∀(r:Int) (e:Nat) (y:Nat),r%2^(1+e)=((d%2+2*y:Nat):Int)->(r%2).toNat=d%2/\(r/2)%2^e=(y:Int):=by
   intro r e y c;rw[Int.pow_add]at c;have H:(0:Int)<2^e:=Int.pow_pos (by decide);have l:r% (2^1*2^e)=r%2+2* (r/2%2^e):=by
    have:=tR r 2;have G:=tR (r/2) (2^e);have m:r=(r%2+2* (r/2%2^e))+(2^1*2^e)* (r/2/2^e):=by
     have:(2:Int)^1*2^e* (r/2/2^e)=2* (2^e* (r/2/2^e)):=by rw[Int.pow_one,mN]
     rw[this];omega
    conv=>lhs;rw[m]
    rw[Int.add_mul_emod_self_left,tS (by omega) (by omega)]
   rw[l]at c;omega
  by_cases c1:a=49
  . subst c1;have:=nD b (d/2) i j k g n.2 u h.2 (by simpa[val,ao]using hd) (by simpa[val,ao]using o) (by simpa[val,ao]using p) q;have w:=h.1;simp[fi]at w;simp only[draw,if_true];rw[this];omega
  by_cases c2:a=68\/a=66
  . have s:(a==68 ||a==66)=true:=by simpa using c2
    have v:(a==83)=false:=by rcases c2 with c|c<;>subst c<;>decide
    have t:(a==84)=false:=by rcases c2 with c|c<;>subst c<;>decide
    simp only[val,ao,s,cv]at hd;obtain⟨l,m⟩:=step _ _ _ hd;have:=nD b (d/2) (i/2) j k g n.2 u h.2 m (by simpa[val,ao,v]using o) (by simpa[val,ao,t]using p) q;simp only[draw,z c1,B c2];rw[this,l];omega
  have x:(a==68 ||a==66)=false:=by simpa using c2
  by_cases c3:a=83
  . have s:(a==83)=true:=by simpa using c3
    have t:(a==84)=false:=by subst c3;decide
    simp only[val,ao,s,cv]at o;obtain⟨l,m⟩:=step _ _ _ o;have:=nD b (d/2) i (j/2) k g n.2 u h.2 (by simpa[val,ao,x]using hd) m (by simpa[val,ao,t]using p) q;simp only[draw,z c1,z c2,B c3];rw[this,l];omega
  have v:(a==83)=false:=by simpa using c3
  by_cases c4:a=84
  . have s:(a==84)=true:=by simpa using c4
    simp only[val,ao,s,cv]at p;obtain⟨l,m⟩:=step _ _ _ p;have:=nD b (d/2) i j (k/2) g n.2 u h.2 (by simpa[val,ao,x]using hd) (by simpa[val,ao,v]using o) m q;simp only[draw,z c1,z c2,z c3,B c4];rw[this,l];omega
  have t:(a==84)=false:=by simpa using c4
  have:=nD b (d/2) i j k g n.2 u h.2 (by simpa[val,ao,x]using hd) (by simpa[val,ao,v]using o) (by simpa[val,ao,t]using p) q;by_cases c5:isLet a=true
  . have A:=C 0 (by simp) (by simpa using c5);simp only[List.getElem_cons_zero,lq,ou]at A;simp only[draw,z c1,z c2,z c3,z c4,B c5];rw[this,A];omega
  . have F:a=48:=by
     have:=n.1;simp[known,c1,c3,c4,c5]at this;rcases this with((c|c)|c)
     . exact c
     . exact absurd (hz c) c2
     . exact absurd (ci c) c2
    have w:=h.1;simp[fi,F]at w;simp only[draw,z c1,z c2,z c3,z c4,z c5];rw[this];omega
theorem wD :∀(b:List L) (c:L),c∈b->isLet c=true->∃a,high b=2^a/\c.toNat-97<=a
 |[],c,f,_=>by simp at f
 |l::b,c,f,i=>by
  rcases dD.1 f with rfl|f
  . by_cases j:∃d∈b,isLet d=true
    . obtain⟨d,k,e⟩:=j
      obtain⟨a,h,_⟩:=wD b d k e
      simp only[high,i,cv,h]
      by_cases g:c.toNat-97<=a
      . exact⟨a,by rw[q0 (cY (by decide) g)],g⟩
      . exact⟨c.toNat-97,by rw[q1 (cY (by decide) (by omega))],aB _⟩
    . have o:high b=0:=by
       clear f i;induction b with
       |nil=>rfl
       |cons d b r=>
        have k:isLet d=false:=by
         cases e:isLet d with
         |false=>rfl
         |true=>exact absurd ⟨d,by simp,e⟩ j
        simp only[high,k,bi];exact r (fun⟨n,p,q⟩=>j ⟨n,by simp[p],q⟩)
      exact⟨c.toNat-97,by simp[high,i,o],aB _⟩
  . obtain⟨a,h,m⟩:=wD b c f i;cases e:isLet l with
    |false=>exact⟨a,by simp[high,e,h],m⟩
    |true=>
     simp only[high,e,cv,h];by_cases g:l.toNat-97<=a
     . exact⟨a,by rw[q0 (cY (by decide) g)],m⟩
     . exact⟨l.toNat-97,by rw[q1 (cY (by decide) (by omega))],by omega⟩
def RE (a:List L)(o:Bool)(d b:Nat)(g:b<a.length)(k:apart a=true)(i:isLet a[b]=true):
 kO a o d/2^(a[b].toNat-97)%2=((d/2^b%2:Nat):Int):=by
 have n:=(xE a d a[b] k i).2 b g rfl;obtain⟨j,m,q⟩:=wD a a[b] (gf g) i;generalize h:sum a d=f at *;generalize p:a[b].toNat-97=c at *;have r:(0:Int)<2^c:=Int.pow_pos R;have l:((f:Int)/2^c%2)=((d/2^b%2:Nat):Int):=by
  rw[<-n];push_cast;rfl
 unfold kO;split
 . obtain⟨e,rfl⟩:∃e,j=c+e:=⟨j-c,by omega⟩;rw[h,m];have:(f:Int)-2* ((2^(c+e):Nat):Int)=(f:Int)+2^c* (-(2*2^e)):=by
    push_cast;rw[Int.pow_add,Int.mul_neg,Int.mul_left_comm,Int.sub_eq_add_neg]
   rw[this,Int.add_mul_ediv_left _ _ (by omega)];omega
 . rw[h];exact l
def p1 (a:List L)(c:Bool)(b:Nat):kO a c b=if c=true/\high a<=sum a b then(sum a b:Int)-2* (high a:Int)else(sum a b:Int):=rfl
def mC (c:L):List L->Nat->Int
 |[],_=>0
 |a::d,b=>(if isLet a=true then(if a=c then -(((b%2*2^(a.toNat-97):Nat)):Int)else((b%2*2^(a.toNat-97):Nat):Int))else 0)+mC c d (b/2)
def gH (a:L):List L->Nat->Nat
 |[],_=>0
 |d::c,b=>(if d=a then b%2 else 0)+gH a c (b/2)
def qa (b:L):List L->Nat
 |[]=>0
 |a::c=>(if isLet a=true/\a≠b then 2^(a.toNat-97)else 0)+qa b c
theorem Eb (a:L)(h:isLet a=true):∀c b,mC a c b=(sum c b:Int)-2* (2^(a.toNat-97)*gH a c b:Nat)
 |[],_=>by simp[mC,sum,gH]
 |g::c,b=>by
  have f:=Eb a h c (b/2)
  simp only[mC,sum,gH]
  by_cases e:isLet g=true
  . simp only[e,if_true,cv]
    by_cases d:g=a
    . subst d;simp only[if_true];rw[f,jr,fl (2^_) (b%2)];omega
    . simp only[z d];rw[f,jr,q2];omega
  . have d:g≠a:=by intro i;exact e (i ▸ h)
    simp only[e,bi,z d];rw[f,jr,q2];simp
theorem En (b:L):∀a d,b∉a->gH b a d=0
 |[],_,_=>rfl
 |f::a,d,c=>by
  simp at c
  simp only[gH,z (fun e:f=b=>c.1 e.symm),En b a (d/2) c.2]
theorem Em (c:L)(f:isLet c=true):∀a e,apart a=true->gH c a e<=1
 |[],_,_=>by simp[gH]
 |h::a,e,d=>by
  simp only[apart,cX,cR,ox]at d
  simp only[gH]
  by_cases g:h=c
  . subst g
    have:h∉a:=by
     rcases d.1 with b|b
     . rw[f]at b;cases b
     . simpa using b
    rw[B rfl,En _ _ _ this];omega
  . rw[z g];have:=Em c f a (e/2) d.2;omega
theorem Ec (a:L)(h:isLet a=true):∀f b,∃r,sum f b=2^(a.toNat-97)*gH a f b+r/\r<=qa a f
 |[],_=>⟨0,by simp[sum,gH]⟩
 |d::f,b=>by
  obtain⟨r,g,j⟩:=Ec a h f (b/2)
  simp only[sum,gH,qa]
  by_cases c:isLet d=true
  . by_cases e:d=a
    . subst e;exact⟨r,by simp only[c,cv,if_true];rw[g,jr,fl (b%2)];omega,by simp;omega⟩
    . refine⟨b%2*2^(d.toNat-97)+r,by simp only[c,cv,z e];rw[g,jr];omega,?_⟩
      rw[B ⟨c,e⟩]
      have:b%2*2^(d.toNat-97)<=1*2^(d.toNat-97):=j7 _ (by omega)
      omega
  . have e:d≠a:=by intro i;exact c (i ▸ h)
    exact⟨r,by simp only[c,bi,z e];rw[g,jr];omega,by simp[c];exact j⟩
def RM (b:List L)(a:L)(c:Nat)(g:apart b=true)(e:isLet a=true)(i:high b=2^(a.toNat-97))(l:qa a b<2^(a.toNat-97)):
 kO b true c=mC a b c:=by
 obtain⟨r,f,m⟩:=Ec a e b c;have k:=Em a e b c g;rw[Eb a e,p1,i];have h:gH a b c=0\/gH a b c=1:=J;rcases h with d|d
 . rw[d]at f|-;rw[z (by rintro⟨_,j⟩;omega)];simp
 . rw[d]at f|-;rw[B ⟨rfl,by omega⟩];simp
def RJ (a:List L)(b:Nat):kO a false b=(sum a b:Int):=by simp[kO]
def ah (b:List L)(a:Nat):List L:=(b.take a).reverse
def qq (a:List L):ah a 0=[]:=rfl
def U9 (a:List L)(i:Nat)(b:i<a.length):ah a (i+1)=a[i]::ah a i:=by
 unfold ah;rw[FE b,List.reverse_append];rfl
def jk (b:List L)(a:Nat)(c:a<=b.length):(ah b a).length=a:=by unfold ah;simp;omega
theorem sq (b:L->Bool):∀a,ao b a<=a.length
 |[]=>by simp[ao]
 |d::a=>by
  have:=sq b a
  cases c:b d<;>simp[ao,c]<;>omega
end C
section
open Go.Shelf
def Tryz.Zq :Go.Shelf.Ren:=⟨fun|171=>220|243=>305|246=>355|283=>383|284=>384|285=>385|286=>386|129=>407|317=>406|318=>408|319=>409|320=>410|337=>441|338=>442|a=>a,fun|3=>3|9=>9|2=>2|4=>4|171=>273|0=>0|53=>274|37=>64|5=>5|173=>277|212=>283|51=>284|20=>20|213=>285|46=>110|232=>296|233=>297|a=>a,fun|17=>0|18=>1|19=>2|a=>a⟩
def Tryz.Zr :Go.Proofs.LaysM.n171 prog Tryz.Zq:={
 mixed:=by kernel_rfl
 f129:=func407.trans (congrArg some (by kernel_rfl))
 f171:=func220.trans (congrArg some (by kernel_rfl))
 f243:=func305.trans (congrArg some (by kernel_rfl))
 f246:=func355.trans (congrArg some (by kernel_rfl))
 f283:=func383.trans (congrArg some (by kernel_rfl))
 f284:=func384.trans (congrArg some (by kernel_rfl))
 f285:=func385.trans (congrArg some (by kernel_rfl))
 f286:=func386.trans (congrArg some (by kernel_rfl))
 f317:=func406.trans (congrArg some (by kernel_rfl))
 f318:=func408.trans (congrArg some (by kernel_rfl))
 f319:=func409.trans (congrArg some (by kernel_rfl))
 f320:=func410.trans (congrArg some (by kernel_rfl))
 f337:=func441.trans (congrArg some (by kernel_rfl))
 f338:=func442.trans (congrArg some (by kernel_rfl))
 t0:=Tryz.underlying0
 a0:=Tryz.isAgg0
 z0:=Tryz.sizeOf0
 v0:=Tryz.zeroValue0
 t2:=Tryz.underlying2
 a2:=Tryz.isAgg2
 z2:=Tryz.sizeOf2
 v2:=Tryz.zeroValue2
 t3:=Tryz.underlying3
 a3:=Tryz.isAgg3
 z3:=Tryz.sizeOf3
 v3:=Tryz.zeroValue3
 t4:=Tryz.underlying4
 a4:=Tryz.isAgg4
 z4:=Tryz.sizeOf4
 v4:=Tryz.zeroValue4
 t5:=oz
 a5:=Tryz.isAgg5
 z5:=Tryz.sizeOf5
 v5:=Tryz.zeroValue5
 t9:=h5
 a9:=Tryz.isAgg9
 z9:=Tryz.sizeOf9
 v9:=Tryz.zeroValue9
 t20:=Tryz.underlying20
 a20:=Tryz.isAgg20
 z20:=Tryz.sizeOf20
 v20:=Tryz.zeroValue20
 t37:=gQ
 a37:=Tryz.isAgg64
 z37:=Tryz.sizeOf64
 v37:=Tryz.zeroValue64
 t46:=Tryz.underlying110
 a46:=Tryz.isAgg110
 z46:=Tryz.sizeOf110
 v46:=Tryz.zeroValue110
 t51:=Tryz.underlying284
 a51:=Tryz.isAgg284
 z51:=Tryz.sizeOf284
 v51:=Tryz.zeroValue284
 t53:=Tryz.underlying274
 a53:=Tryz.isAgg274
 z53:=Tryz.sizeOf274
 v53:=Tryz.zeroValue274
 t171:=Tryz.underlying273
 a171:=Tryz.isAgg273
 z171:=Tryz.sizeOf273
 v171:=Tryz.zeroValue273
 t173:=Tryz.underlying277
 a173:=Tryz.isAgg277
 z173:=Tryz.sizeOf277
 v173:=Tryz.zeroValue277
 t212:=Tryz.underlying283
 a212:=Tryz.isAgg283
 z212:=Tryz.sizeOf283
 v212:=Tryz.zeroValue283
 t213:=Tryz.underlying285
 a213:=Tryz.isAgg285
 z213:=Tryz.sizeOf285
 t232:=Tryz.underlying296
 a232:=Tryz.isAgg296
 z232:=Tryz.sizeOf296
 v232:=Tryz.zeroValue296
 t233:=Tryz.underlying297
 a233:=Tryz.isAgg297
 z233:=Tryz.sizeOf297
 v233:=Tryz.zeroValue297
 g17:=by kernel_rfl
 g18:=by kernel_rfl
 g19:=by kernel_rfl
 i0:=by kernel_rfl
 i2:=by kernel_rfl
 i3:=by kernel_rfl
 i4:=by kernel_rfl
 i5:=by kernel_rfl
 i9:=by kernel_rfl
 i20:=by kernel_rfl
 i37:=by kernel_rfl
 i46:=by kernel_rfl
 i51:=by kernel_rfl
 i53:=by kernel_rfl
 i171:=by kernel_rfl
 i173:=by kernel_rfl
 i212:=by kernel_rfl
 i232:=by kernel_rfl
 i233:=by kernel_rfl
 m17:=by kernel_rfl
 m18:=by kernel_rfl
 m19:=by kernel_rfl}
open Go.RowKit Go.Sort Go.Lib in
theorem Tryz.strconv_Itoa (a:Int)(e:-9223372036854775808<=a)(f:a<=9223372036854775807)(b:D)(g:Lib.TabIs prog b "internal/strconv.uint64pow10" .u64 Lib.pow10Tab):
 Calls prog 220 #[j a] b fun d c=>d=.returned (.string ⟨(Lib.itoa a).toArray⟩)/\∃h i,c=grow (b.drewN h) i:=Any.strconv_Itoa Tryz.Zr a e f b g
def Tryz.Zs :Go.Shelf.Ren:=⟨fun|171=>220|243=>305|246=>355|283=>383|284=>384|285=>385|286=>386|129=>407|317=>406|318=>408|319=>409|320=>410|337=>441|338=>442|a=>a,fun|3=>3|9=>9|2=>2|4=>4|171=>273|0=>0|53=>274|37=>64|5=>5|173=>277|212=>283|51=>284|20=>20|213=>285|46=>110|232=>296|233=>297|a=>a,fun|17=>0|18=>1|19=>2|a=>a⟩
def Tryz.Zt :Go.Proofs.Lays.n171 prog Tryz.Zs:={
 mixed:=by kernel_rfl
 f129:=func407.trans (congrArg some (by kernel_rfl))
 f171:=func220.trans (congrArg some (by kernel_rfl))
 f243:=func305.trans (congrArg some (by kernel_rfl))
 f246:=func355.trans (congrArg some (by kernel_rfl))
 f283:=func383.trans (congrArg some (by kernel_rfl))
 f284:=func384.trans (congrArg some (by kernel_rfl))
 f285:=func385.trans (congrArg some (by kernel_rfl))
 f286:=func386.trans (congrArg some (by kernel_rfl))
 f317:=func406.trans (congrArg some (by kernel_rfl))
 f318:=func408.trans (congrArg some (by kernel_rfl))
 f319:=func409.trans (congrArg some (by kernel_rfl))
 f320:=func410.trans (congrArg some (by kernel_rfl))
 f337:=func441.trans (congrArg some (by kernel_rfl))
 f338:=func442.trans (congrArg some (by kernel_rfl))
 t0:=Tryz.underlying0
 a0:=Tryz.isAgg0
 z0:=Tryz.sizeOf0
 v0:=Tryz.zeroValue0
 t2:=Tryz.underlying2
 a2:=Tryz.isAgg2
 z2:=Tryz.sizeOf2
 v2:=Tryz.zeroValue2
 t3:=Tryz.underlying3
 a3:=Tryz.isAgg3
 z3:=Tryz.sizeOf3
 v3:=Tryz.zeroValue3
 t4:=Tryz.underlying4
 a4:=Tryz.isAgg4
 z4:=Tryz.sizeOf4
 v4:=Tryz.zeroValue4
 t5:=oz
 a5:=Tryz.isAgg5
 z5:=Tryz.sizeOf5
 v5:=Tryz.zeroValue5
 t9:=h5
 a9:=Tryz.isAgg9
 z9:=Tryz.sizeOf9
 v9:=Tryz.zeroValue9
 t20:=Tryz.underlying20
 a20:=Tryz.isAgg20
 z20:=Tryz.sizeOf20
 v20:=Tryz.zeroValue20
 t37:=gQ
 a37:=Tryz.isAgg64
 z37:=Tryz.sizeOf64
 v37:=Tryz.zeroValue64
 t46:=Tryz.underlying110
 a46:=Tryz.isAgg110
 z46:=Tryz.sizeOf110
 v46:=Tryz.zeroValue110
 t51:=Tryz.underlying284
 a51:=Tryz.isAgg284
 z51:=Tryz.sizeOf284
 v51:=Tryz.zeroValue284
 t53:=Tryz.underlying274
 a53:=Tryz.isAgg274
 z53:=Tryz.sizeOf274
 v53:=Tryz.zeroValue274
 t171:=Tryz.underlying273
 a171:=Tryz.isAgg273
 z171:=Tryz.sizeOf273
 v171:=Tryz.zeroValue273
 t173:=Tryz.underlying277
 a173:=Tryz.isAgg277
 z173:=Tryz.sizeOf277
 v173:=Tryz.zeroValue277
 t212:=Tryz.underlying283
 a212:=Tryz.isAgg283
 z212:=Tryz.sizeOf283
 v212:=Tryz.zeroValue283
 t213:=Tryz.underlying285
 a213:=Tryz.isAgg285
 z213:=Tryz.sizeOf285
 t232:=Tryz.underlying296
 a232:=Tryz.isAgg296
 z232:=Tryz.sizeOf296
 v232:=Tryz.zeroValue296
 t233:=Tryz.underlying297
 a233:=Tryz.isAgg297
 z233:=Tryz.sizeOf297
 v233:=Tryz.zeroValue297
 g17:=by kernel_rfl
 g18:=by kernel_rfl
 g19:=by kernel_rfl}
open Go.RowKit Go.Sort Go.Lib in
theorem Tryz.strconv_Itoa_small (i:Nat)(b:i<100)(a:D):
 O 220 #[j i] (.string ⟨(Lib.decDigits i).toArray⟩) a:=Any.strconv_Itoa_small Tryz.Zt i b a
end
def QF :(prog.fieldsOf 53).toList.map (fun a=>(a.name,a.type,a.offset))=[("Op",3,0),("Rd",3,1),("Rs1",3,2),("Rs2",3,3),("Imm",3,4),("Len",3,5)]:=by kernel_rfl
def abw :prog.underlying 53=some (.struct (prog.fieldsOf 53)):=by kernel_rfl
def VX :prog.stoodInHeld 53=false:=by kernel_rfl
def Qz (q:Nat)(c d e f g h i j k l m n:Int)(a:List Field)(b:a.map (fun o=>(o.name,o.type,o.offset))=[("Op",3,0),("Rd",3,1),("Rs1",3,2),("Rs2",3,3),("Imm",3,4),("Len",3,5)])(p:D):
 (Op.eqFields (q+1) #[.int .i64 c,.int .i64 d,.int .i64 e,.int .i64 f,.int .i64 g,.int .i64 h] #[.int .i64 i,.int .i64 j,.int .i64 k,.int .i64 l,.int .i64 m,.int .i64 n] a).run prog p=
   .ok (c==i&&d==j&&e==k&&f==l&&g==m&&h==n) p:=by
 rcases a with _|⟨f0,a⟩
 . simp at b
 rcases a with _|⟨f1,a⟩
 . simp at b
 rcases a with _|⟨f2,a⟩
 . simp at b
 rcases a with _|⟨f3,a⟩
 . simp at b
 rcases a with _|⟨f4,a⟩
 . simp at b
 rcases a with _|⟨f5,a⟩
 . simp at b
 rcases a with _|⟨f6,a⟩
 . simp only[tT,List.map_nil,List.cons.injEq,bM,gg]at b;obtain⟨⟨x,t0,E⟩,⟨y,t1,F⟩,⟨z,t2,G⟩,⟨A,t3,H⟩,⟨B,t4,I⟩,C,t5,J⟩:=b;simp[Op.eqFields,x,y,z,A,B,C,t0,t1,t2,t3,t4,t5,E,F,G,H,I,J,go_sem,part];by_cases r:c=i<;>by_cases s:d=j<;>by_cases t:e=k<;>by_cases u:f=l<;>by_cases v:g=m<;>by_cases w:h=n<;>simp[r,s,t,u,v,w]
 . simp at b
def wq (b c d e f g h i j k l m:Int)(a:D):
 (binOp .eql 53 (.agg #[.int .i64 b,.int .i64 c,.int .i64 d,.int .i64 e,.int .i64 f,.int .i64 g]) (.agg #[.int .i64 h,.int .i64 i,.int .i64 j,.int .i64 k,.int .i64 l,.int .i64 m])).run prog a=
   .ok (.bool (b==h&&c==i&&d==j&&e==k&&f==l&&g==m)) a:=by
 rw[run_eql_struct,show(10000:Nat)=9998+1+1 from rfl,run_equalIn_agg a (9998+1) 53 _ _ abw VX,Qz 9998 _ _ _ _ _ _ _ _ _ _ _ _ _ QF];rfl
end Go.Proofs.YtmlgonbhoknoiaaGreatDoor
