import Derived.Test.YtmlgonbhoknoiabGreatDoorJAC
set_option maxHeartbeats 8000000
set_option maxRecDepth 100000
set_option linter.all false
namespace Go.Proofs.YtmlgonbhoknoiabGreatDoor
open Go.RowKit Go.Proofs.Tryz
namespace u
def cG (a:List L):Nat:=match a with
 |[]=>0
 |b::a=>if de b=true then cG a+1 else 0
def isName (a:List L):Bool:=match a with
 |[]=>false
 |b::_=>!(bm b)&&a.all ck
def plain (a:List L):Option Nat:=
 if 2<a.length/\a[0]?=some 48/\a[1]?=some 120 then du 16 8 (a.drop 2)else du 10 10 a
end u
theorem xH :∀a:List L,u.cG a<=a.length
 |[]=>by simp[u.cG]
 |b::a=>by
  have:=xH a
  simp only[u.cG,c6];split<;>omega
def CA (a:L):u.de a=(u.ck a ||((a.toNat:Int)==45)):=by
 unfold u.de;congr 1;rw[dY,cA,ba];omega
def OU (a:K)(v:a.size<=5000)(c:Nat)(o:c<=a.size)(q:D):
 O 218 #[.string a,j c] (j (c+u.cG (a.data.toList.drop c):Nat)) q:=by
 obtain⟨d,e⟩:=y (c+u.cG (a.data.toList.drop c));rw[<-e];have n:=l e;clear e;go_enter func218,ntmps218;go_wp2;go_loop [1] (fun g=>∃i:Nat,i<=a.size/\g=j i/\Hid (d=i+u.cG (a.data.toList.drop i))) (fun g=>a.size- (intOf g).toNat);case atStart=>exact⟨c,o,rfl,n⟩
 case round=>
  obtain⟨i,t,rfl,b⟩:=hrel;by_cases p:i<a.size
  . rw[eF a i p]at b;have f:=CA a[i];cases h:u.ck a[i]
    . cases k:((a[i].toNat:Int)==45)
      . have e:Hid (d=i):=(by rw[b.out];simp only[u.cG];rw[f,h,k,z (by decide)];rfl:d=i);clear b f;go_wp2_with(go_at_call 307;refine(sH _ _).mono ?_;rintro s r ⟨rfl,rfl⟩);exact Ii
      . have m:Hid (d=i+1+u.cG (a.data.toList.drop (i+1))):=(by rw[b.out];simp only[u.cG];rw[f,h,k,B (by rfl)];omega:_=_);exact Ij
    . have m:Hid (d=i+1+u.cG (a.data.toList.drop (i+1))):=(by rw[b.out];simp only[u.cG];rw[f,h,B (by rfl)];omega:_=_);exact Ij
  . obtain rfl:i=a.size:=by omega
    have hd:a.data.toList.drop a.size=[]:=rV;rw[hd]at b;have e:Hid (d=a.size):=b;clear b hd;exact si
def QA {a:K}(b:a.size=0):a.toList.isEmpty=true:=by
 rw[mP,List.isEmpty_iff];exact yF (by simpa using b)
theorem Tg {a:K}(c:0<a.size):a.toList.isEmpty=false:=by
 rw[mP];cases hd:a.data.toList with
 |nil=>
  have:a.data.toList.length=a.size:=by simp
  rw[hd]at this;simp at this;omega
 |cons b d=>rfl
def nr (a:K)(w:a.size<=5000)(t:D):
 O 220 #[.string a] (.bool (u.isName a.data.toList)) t:=by
 by_cases d:a.size=0
 . have p:a.data.toList=[]:=Hb;have r:=QA d;rw[show u.isName a.data.toList=false by rw[p];rfl];clear p d;go_enter func220,ntmps220;exact nc
 . have q:0<a.size:=J;have r:=Tg q;have f:u.isName a.data.toList=(!(u.bm a[0])&& (a.data.toList.drop 0).all u.ck):=by
    have n:=eF a 0 q;rw[jw]at n;conv=>lhs;rw[n]
    simp only[u.isName];rw[<-n];rfl
   rw[f];clear f d;cases hd:u.bm a[0]
   . rw[Bool.not_false,h4];obtain⟨g,o⟩:=y ((a.data.toList.drop 0).all u.ck);rw[<-o];have c:=l o;clear o;go_enter func220,ntmps220;go_wp2_with(go_at_call 308;refine(sG _ _).mono ?_;rintro m h ⟨rfl,rfl⟩);go_loop [3] (fun k=>∃i:Nat,i<=a.size/\k=j i/\Hid (g=(a.data.toList.drop i).all u.ck)) (fun k=>a.size- (intOf k).toNat);case atStart=>exact vC
     case round=>
      obtain⟨i,v,rfl,b⟩:=hrel;by_cases s:i<a.size
      . rw[eF a i s,show(a[i]::a.data.toList.drop (i+1)).all u.ck=(u.ck a[i]&& (a.data.toList.drop (i+1)).all u.ck)from rfl]at b;cases f:u.ck a[i]
        . rw[f,jt]at b;go_wp2_with(go_at_call 307;refine(sH _ _).mono ?_;rintro m h ⟨rfl,rfl⟩);exact zP
        . rw[f,h4]at b;go_wp2_with(go_at_call 307;refine(sH _ _).mono ?_;rintro m h ⟨rfl,rfl⟩);exact Ik
      . exact Il
   . go_enter func220,ntmps220;go_wp2_with(go_at_call 308;refine(sG _ _).mono ?_;rintro m h ⟨rfl,rfl⟩);exact lR
def mf (a:K)(i:Nat)(b:i<a.size):a.data.toList[i]?=some a[i]:=by
 rw[fa (by simpa using b)];rfl
def lg {a:L}{n:Nat}(c:n<256):(a.toNat:Int)=n↔a=UInt8.ofNat n:=Im
def Dg {a:K}(d:2<a.size)(b:((a[0].toNat:Int)==48)=true)(c:((a[1].toNat:Int)==120)=true):u.plain a.data.toList=u.du 16 8 (a.extract 2 a.size).data.toList:=by
 unfold u.plain;replace b:=(lg (n:=48) R).1 (ba.1 b);replace c:=(lg (n:=120) R).1 (ba.1 c);rw[B ⟨by simpa using d,by rw[mf a 0 (by omega),b];rfl,by rw[mf a 1 (by omega),c];rfl⟩,yG]
def xw {a:K}(b:¬2<a.size):u.plain a.data.toList=u.du 10 10 a.data.toList:=by
 unfold u.plain;rw[z (fun c=>b (by simpa using c.1))]
def De {a:K}(e:2<a.size)(b:((a[0].toNat:Int)==48)=false):u.plain a.data.toList=u.du 10 10 a.data.toList:=by
 unfold u.plain;replace b:=fun c=>(b4.1 b) ((lg (n:=48) R).2 c);rw[z (fun d=>b (by have:=d.2.1;rw[mf a 0 (by omega)]at this;exact h6 this))]
def Df {a:K}(e:2<a.size)(b:((a[1].toNat:Int)==120)=false):u.plain a.data.toList=u.du 10 10 a.data.toList:=by
 unfold u.plain;replace b:=fun c=>(b4.1 b) ((lg (n:=120) R).2 c);rw[z (fun d=>b (by have:=d.2.2;rw[mf a 1 (by omega)]at this;exact h6 this))]
def Bu (a:K)(k:a.size<=5000)(f:D):
 Calls prog 387 #[.string a] f fun h g=>(∃b:Option Nat,Hid (u.plain a.data.toList=b)/\b.getD 0<=10000000000/\h=.returned (.tuple #[j (b.getD 0:Nat),.bool b.isSome]))/\g=f:=by
 by_cases c1:2<a.size
 . cases d:((a[0].toNat:Int)==48)
   . have c:=l (De c1 d);exact zQ
   . cases e:((a[1].toNat:Int)==120)
     . have c:=l (Df c1 e);exact zQ
     . have c:=l (Dg c1 d e);go_enter func387,ntmps387;go_wp2_with fail;refine(OP (a.extract 2 a.size) ad _).mono ?_;exact In
 . have c:=l (xw c1);exact zQ
namespace u
def number (a:List L):Int×Bool:=
 if a[0]?=some 45 then(-(((plain (a.drop 1)).getD 0:Nat):Int),(plain (a.drop 1)).isSome)else((((plain a).getD 0:Nat):Int),(plain a).isSome)
end u
def C2 {a:K}(c:0<a.size)(b:((a[0].toNat:Int)==45)=true):u.number a.data.toList=(-(((u.plain (a.extract 1 a.size).data.toList).getD 0:Nat):Int),(u.plain (a.extract 1 a.size).data.toList).isSome):=by
 replace b:=(lg (n:=45) R).1 (ba.1 b);unfold u.number;rw[B (by rw[mf a 0 c,b];rfl),yG]
def tf {b:K}(a:¬(0<b.size)\/∃a:0<b.size,((b[0].toNat:Int)==45)=false):u.number b.data.toList=((((u.plain b.data.toList).getD 0:Nat):Int),(u.plain b.data.toList).isSome):=by
 unfold u.number;rw[z];intro c;rcases a with a|⟨a,d⟩
 . rw[uv (by simp at a;simp[a])]at c;cases c
 . replace d:=fun e=>(b4.1 d) ((lg (n:=45) R).2 e);rw[mf b 0 a]at c;exact d (h6 c)
def jQ (a:K)(f:a.size<=5000)(d:D):
 O 357 #[.string a] (.tuple #[j (u.number a.data.toList).1,.bool (u.number a.data.toList).2]) d:=by
 by_cases c1:0<a.size
 . cases c:((a[0].toNat:Int)==45)
   . have b:=l (tf (.inr ⟨c1,c⟩));exact Io
   . have b:=l (C2 c1 c);go_enter func357,ntmps357;go_wp2_with fail;refine(Bu (a.extract 1 a.size) ad _).mono ?_;exact vD
 . have b:=l (tf (.inl c1));have c2:decide ((0:Int)< (a.size:Int))=false:=zq;exact Io
def TE {a:K}(h:2<=a.size)(b:((a[0].toNat:Int)==48)=true)(c:((a[1].toNat:Int)==120)=true):u.plain a.data.toList=u.du 16 8 (a.extract 2 a.size).data.toList:=by
 by_cases e:2<a.size
 . exact Dg e b c
 . rw[xw e,yG];replace b:=(lg (n:=48) R).1 (ba.1 b);replace c:=(lg (n:=120) R).1 (ba.1 c);have g:a.data.toList=[48,120]:=by
    have d:=eF a 0 m;have f:=eF a 1 m;rw[jw]at d;rw[d,f,b,c,eQ (by simp;omega)];rfl
   rw[g];rfl
def xx {s:K}(a:¬2<=s.size\/(∃a:2<=s.size,((s[0].toNat:Int)==48)=false)\/(∃a:2<=s.size,((s[1].toNat:Int)==120)=false)):u.plain s.data.toList=u.du 10 10 s.data.toList:=by
 by_cases b:2<s.size
 . rcases a with a|⟨a,c⟩|⟨a,d⟩
   . omega
   . exact De b c
   . exact Df b d
 . exact xw b
def aaE (a:K)(A:a.size<=5000)(w:a.size<2)(p:D):
 Calls prog 389 #[.string a] p fun t s=>(∃n:Option Nat,Hid (u.plain a.data.toList=n)/\n.getD 0<=10000000000/\t=.returned (.tuple #[j (n.getD 0:Nat),.bool n.isSome]))/\s=p:=by
 have d:=xx (s:=a) (.inl m);have q:a.data.toList.length=a.size:=bL;by_cases c1:a.size<1
 . exact Iq
 by_cases c2:10<a.size
 . omega
 exact Ip
def aaC (a:K)(E:a.size<=5000)(A:2<=a.size)(w:((a[0].toNat:Int)==48)=false)(p:D):
 Calls prog 389 #[.string a] p fun t s=>(∃n:Option Nat,Hid (u.plain a.data.toList=n)/\n.getD 0<=10000000000/\t=.returned (.tuple #[j (n.getD 0:Nat),.bool n.isSome]))/\s=p:=by
 have d:=xx (s:=a) (.inr (.inl ⟨A,w⟩));exact Ir
def aaD (a:K)(G:a.size<=5000)(A:2<=a.size)(E:((a[0].toNat:Int)==48)=true)(w:((a[1].toNat:Int)==120)=false)(p:D):
 Calls prog 389 #[.string a] p fun t s=>(∃n:Option Nat,Hid (u.plain a.data.toList=n)/\n.getD 0<=10000000000/\t=.returned (.tuple #[j (n.getD 0:Nat),.bool n.isSome]))/\s=p:=by
 have d:=xx (s:=a) (.inr (.inr ⟨A,w⟩));exact Ir
def aaB (f:K)(L:f.size<=5000)(w:2<=f.size)(E:((f[0].toNat:Int)==48)=true)(v:((f[1].toNat:Int)==120)=true)(a:K)(hS:Hid (a=f.extract 2 f.size))(M:∀n,(Instr.slice 9 (.string f) (some (.int .i64 2)) none none).run prog n=.ok (.string a) n)(n:D):
 Calls prog 389 #[.string f] n fun t s=>(∃p:Option Nat,Hid (u.plain f.data.toList=p)/\p.getD 0<=10000000000/\t=.returned (.tuple #[j (p.getD 0:Nat),.bool p.isSome]))/\s=n:=by
 have d:=TE w E v;rw[<-hS.out]at d;have G:a.data.toList.length=a.size:=bL;by_cases c1:a.size<1
 . exact Is
 by_cases c2:8<a.size
 . exact Is
 replace d:=d.trans (show u.du 16 8 a.data.toList=u.dc 16 0 (a.data.toList.drop 0)by unfold u.du;rw[z (by omega)];rfl);obtain⟨k,q⟩:=y (u.dc 16 0 (a.data.toList.drop 0));rw[<-q]at d;have r:=l d;have A:Hid (u.dc 16 0 (a.data.toList.drop 0)=k):=q.symm;clear q d G;go_enter func389,ntmps389;go_wp2;go_loop [6,7] (fun C e=>∃i b:Nat,i<=a.size/\C=j b/\e=j i/\Hid (b+1<=16^i)/\Hid (u.dc 16 b (a.data.toList.drop i)=k)) (fun _ e=>a.size- (intOf e).toNat);case atStart=>exact Ih
 case round=>
  obtain⟨i,b,J,rfl,rfl,o,c⟩:=hrel;have H:b<=4294967296:=by
   have v:=o.out;have w:16^i<=16^8:=kj;have I:((16:Nat)^8)=4294967296:=cK;omega
  by_cases h:i<a.size
  . go_wp2_with fail;refine(EP a[i] _).mono ?_;rintro t s ⟨rfl,rfl⟩;obtain⟨e,hd⟩:=y (u.cp a[i]);rw[<-hd];have g:=l hd;clear hd;by_cases d16:e=16
    . exact F4
    rw[z d16];by_cases x:16<=e
    . exact F5
    . exact Ig
  . obtain rfl:i=a.size:=by omega
    have hd:a.data.toList.drop a.size=[]:=rV;exact ajv
def ES (a:K)(c:a.size<=5000)(b:D):
 Calls prog 389 #[.string a] b fun i h=>(∃d:Option Nat,Hid (u.plain a.data.toList=d)/\d.getD 0<=10000000000/\i=.returned (.tuple #[j (d.getD 0:Nat),.bool d.isSome]))/\h=b:=by
 by_cases k:a.size<2
 . exact aaE a c k b
 . have e:2<=a.size:=J;cases f:((a[0].toNat:Int)==48)
   . exact aaC a c e f b
   . cases g:((a[1].toNat:Int)==120)
     . exact aaD a c e f g b
     . exact aaB a c e f g (a.extract 2 a.size) rfl (fun b=>by
        rw[uw b 9 a .i64 2 h5,B (by omega)];rfl) b
def EQ (a:K)(f:a.size<=5000)(d:D):
 O 361 #[.string a] (.tuple #[j (u.number a.data.toList).1,.bool (u.number a.data.toList).2]) d:=by
 by_cases c1:0<a.size
 . cases c:((a[0].toNat:Int)==45)
   . have b:=l (tf (.inr ⟨c1,c⟩));exact It
   . have b:=l (C2 c1 c);go_enter func361,ntmps361;go_wp2_with fail;refine(ES (a.extract 1 a.size) ad _).mono ?_;exact vD
 . have b:=l (tf (.inl c1));have c2:decide ((0:Int)< (a.size:Int))=false:=zq;exact It
def Tf (a:L):(u.de a&&!((a.toNat:Int)==45))=u.ck a:=by
 rw[CA];cases b:((a.toNat:Int)==45)
 . simp
 . rw[ba]at b;have:u.ck a=false:=by simp[u.ck,u.cF,u.bm];omega
   simp[this]
def Tb (a:L)(b:List L):u.isName (a::b)=(u.cF a&& (a::b).all u.ck):=by
 simp only[u.isName,yA,u.ck];cases c:u.cF a<;>cases hd:u.bm a<;>simp;simp[u.cF,u.bm]at c hd;omega
def qZ (a:K)(x:a.size<=5000)(v:D):
 O 232 #[.string a] (.bool (u.isName a.data.toList)) v:=by
 by_cases d:a.size=0
 . have q:a.data.toList=[]:=Hb;have r:((a.size:Int)==0)=true:=jC;rw[show u.isName a.data.toList=false by rw[q];rfl];clear q d;go_enter func232,ntmps232;exact nc
 . have t:0<a.size:=J;have r:((a.size:Int)==0)=false:=gU;have f:u.isName a.data.toList=(u.cF a[0]&& (a.data.toList.drop 0).all u.ck):=by
    have k:=eF a 0 t;rw[jw]at k;conv=>lhs;rw[k]
    rw[Tb,<-k];rfl
   rw[f];clear f d;cases hd:u.cF a[0]
   . go_enter func232,ntmps232;go_wp2_with(go_at_call 316;refine(x6 _ _).mono ?_;rintro o n ⟨rfl,rfl⟩);exact lR
   . rw[h4];obtain⟨g,m⟩:=y ((a.data.toList.drop 0).all u.ck);rw[<-m];have c:=l m;clear m;go_enter func232,ntmps232;go_wp2_with(go_at_call 316;refine(x6 _ _).mono ?_;rintro o n ⟨rfl,rfl⟩);go_loop [4] (fun h=>∃i:Nat,i<=a.size/\h=j i/\Hid (g=(a.data.toList.drop i).all u.ck)) (fun h=>a.size- (intOf h).toNat);case atStart=>exact vC
     case round=>
      obtain⟨i,w,rfl,b⟩:=hrel;by_cases s:i<a.size
      . rw[eF a i s,show(a[i]::a.data.toList.drop (i+1)).all u.ck=(u.ck a[i]&& (a.data.toList.drop (i+1)).all u.ck)from rfl,<-Tf]at b;cases f:u.de a[i]
        . rw[f,jt,jt]at b;exact Iu
        . cases p:((a[i].toNat:Int)==45)
          . rw[f,p,Bool.not_false,h4,h4]at b;go_wp2_with(go_at_call 315;refine(tP _ _).mono ?_;rintro o n ⟨rfl,rfl⟩);exact Ik
          . rw[f,p,Bool.not_true,h4,jt]at b;exact Iu
      . exact Il
namespace u
def tok :Nat->List L->List (List L)
 |0,_=>[]
 |_+1,[]=>[]
 |c+1,a::b=>if a.toNat=35 then[]else if 0<cG (a::b)then(a::b).take (cG (a::b))::tok c ((a::b).drop (cG (a::b)))else if blank a=true then tok c b else[a]::tok c b
def aG (a:List L):Value:=.string ⟨a.toArray⟩
end u
theorem tK :∀(b g:Nat) (a:List L),a.length<=b->a.length<=g->u.tok b a=u.tok g a
 |0,0,_,_,_=>rfl
 |0,g+1,[],_,_=>rfl
 |b+1,0,[],_,_=>rfl
 |0,_+1,c::a,d,_=>by simp at d
 |_+1,0,c::a,_,d=>by simp at d
 |b+1,g+1,[],_,_=>rfl
 |b+1,g+1,c::a,e,f=>by
  simp only[c6]at e f
  simp only[u.tok]
  by_cases c1:c.toNat=35
  . rw[B c1,B c1]
  . rw[z c1,z c1]
    by_cases c2:0<u.cG (c::a)
    . rw[B c2,B c2,tK b g _ (by simp;omega) (by simp;omega)]
    . rw[z c2,z c2,tK b g a (by omega) (by omega)]
theorem wP (c:K)(a b:Nat):Value.string (c.extract a b)=u.aG ((c.data.toList.drop a).take (b-a)):=by
 unfold u.aG;congr 1;have d:=Lib.extract_data c a b;cases hd:c.extract a b with
 |mk e=>
  rw[hd]at d;simp only at d;rw[<-d]
def Tryz.YN :(prog.info? 9).map (fun i=>(i.zero,i.size,i.bytes))=some (some (.string ⟨#[]⟩),1,16):=by kernel_rfl
def mx (c:K)(b a:Nat)(e:b<=a)(f:a<=c.size)(d:D):(Instr.slice 9 (.string c) (some (.int .i64 (b:Int))) (some (.int .i64 (a:Int))) none).run prog d=.ok (.string (c.extract b a)) d:=by
 rw[run_slice_string d 9 c .i64 .i64 b a h5 (by omega) (by omega) (by omega)];simp
def OV (a:K)(ag:a.size<=5000)(c:D):
 Calls prog 151 #[.string a] c fun w v=>∃k,w=.returned k/\k≠ .slice none 0 0/\v.ownsRow c.heap.size 9 1 k (u.tok a.size a.data.toList).length ((u.tok a.size a.data.toList).map u.aG)/\Below c.heap.size c v:=by
 have am:∀c,(Instr.makeSlice 162 (.int .i64 0) (.int .i64 0)).run prog c=.ok (.slice (some ⟨c.heap.size,0,none⟩) 0 0) (c.alloc (.cells #[] 9)):=fun _=>by kernel_rfl
 obtain⟨ae,S,aa,ab,ac⟩:=hx Tryz.YN;obtain⟨e,H⟩:=y (u.tok a.size a.data.toList);rw[<-H];have av:=l H;clear H;go_enter func151,ntmps151;go_wp2;go_loopw [3,4] (fun k G wr=>∃(b:Nat) (p:List (List L)),b<=a.size/\p.length<=b/\G=j b/\k≠ .slice none 0 0/\wr.ownsRow c.heap.size 9 1 k p.length (p.map u.aG)/\Below c.heap.size c wr/\Hid (e=p++u.tok (a.size-b) (a.data.toList.drop b))) (fun _ G _=>a.size- (intOf G).toNat);case atStart=>exact IB
 case round=>
  obtain⟨b,p,al,an,rfl,V,h,o,q⟩:=hrel;by_cases T:b<a.size
  . have A:=eF a b T;have C:a.size-b=(a.size-b-1)+1:=J;have W:=o.size;have X:∀af,u3.ownBlock=some af->c.heap.size<=af:=vl;by_cases x:a[b].toNat=35
    . exact Iv
    . have aj:((a[b].toNat:Int) !=35)=true:=M;have Y:u.cG (a.data.toList.drop b)<=a.size-b:=Hv;obtain⟨r,F⟩:=y (u.cG (a.data.toList.drop b));rw[<-F]at Y;have HR:=l F;have Z:e=p++(if 0<r then(a.data.toList.drop b).take r::u.tok (a.size-b-1) ((a.data.toList.drop b).drop r)else if u.blank a[b]=true then u.tok (a.size-b-1) (a.data.toList.drop (b+1))else[a[b]]::u.tok (a.size-b-1) (a.data.toList.drop (b+1))):=by
       rw[q.out,F,C,A];simp only[u.tok];rw[z x];simp only[Nat.add_sub_cancel]
      clear F q A C x;have f:=l Z;clear Z;go_wp2_with fail;refine(OU a ag b m _).mono ?_;rintro w v ⟨rfl,rfl⟩;rw[<-HR.out];clear HR;obtain⟨d,E⟩:=y (b+r);rw[<-E];have i:=l E;have O:d<=a.size:=J;by_cases U:0<r
      . have ak:b<d:=J;clear E;have s:Hid (e=(p++[(a.data.toList.drop b).take r])++u.tok (a.size-d) (a.data.toList.drop d)):=by
         show e=_;rw[i.out,f.out,B U,lp,tK (a.size-b-1) (a.size- (b+r)) _ (by simp;omega) (by simp)];simp
        clear f Y U;obtain⟨n,g⟩:=y (a.extract b d);have ah:∀c,(Instr.slice 9 (.string a) (some (.int .i64 (b:Int))) (some (.int .i64 (d:Int))) none).run prog c=.ok (.string n) c:=by
         intro c;rw[g];exact mx a b d m O c
        have I:=l g;clear g;go_wp2_with(at_builtin;refine ke _ rfl (.tmp 34) (.tmp 39) 162 rfl c.heap.size 9 ae (.string ⟨#[]⟩) 1 16 oM S aa ab ac rfl R _ _ _ rfl (h.alloc _) ⟨v.heap.size,0,none⟩ 1 1 [.string n] rfl rfl ?c1 ?c2 ?c3 ?c4 ?c5 ?_);case c1=>
         exact nd
        case c2=>exact pI
        case c3=>exact gp
        case c4=>omega
        case c5=>simp;omega
        exact Iw
      . obtain rfl:r=0:=by omega
        have P:d=b:=J;rw[P];clear E i O P;rw[z (by omega)]at f;cases Q:u.blank a[b]
        . rw[Q,z (by decide)]at f;have s:Hid (e=(p++[[a[b]]])++u.tok (a.size- (b+1)) (a.data.toList.drop (b+1))):=by
           show e=_;rw[f.out,show a.size- (b+1)=a.size-b-1 by omega];simp
          clear f;have N:(a.data.toList.drop b).take 1=[a[b]]:=by rw[eF a b T];rfl
          have au:=l N;clear N;obtain⟨n,g⟩:=y (a.extract b (b+1));have ah:∀c,(Instr.slice 9 (.string a) (some (.int .i64 (b:Int))) (some (.int .i64 ((b:Int)+1))) none).run prog c=.ok (.string n) c:=by
           intro c;rw[g];exact mx a b (b+1) m m c
          have I:=l g;clear g;go_wp2_with(first|(go_at_call 219;refine(Bs _ _).mono ?_;rintro w ai ⟨rfl,rfl⟩)|(at_builtin;refine ke _ rfl (.tmp 20) (.tmp 26) 162 rfl c.heap.size 9 ae (.string ⟨#[]⟩) 1 16 oM S aa ab ac rfl R _ _ _ rfl (h.alloc _) ⟨_,0,none⟩ 1 1 [.string n] rfl rfl ?c1 ?c2 ?c3 ?c4 ?c5 ?_));case c1=>
           exact nd
          case c2=>exact pI
          case c3=>exact gp
          case c4=>omega
          case c5=>simp;omega
          exact Iy
        . rw[Q,B rfl]at f;have s:Hid (e=p++u.tok (a.size- (b+1)) (a.data.toList.drop (b+1))):=by
           show e=_;rw[f.out,show a.size- (b+1)=a.size-b-1 by omega]
          clear f;go_wp2_with(go_at_call 219;refine(Bs _ _).mono ?_;rintro w ai ⟨rfl,rfl⟩);exact Iz
  . exact IA
def E9 (c:Nat)(a:K)(d:D)(f:d.cell? ⟨c,9,none⟩=some (.string a)):
 O 438 #[I c] (.bool (decide (0<a.size))) d:=by
 obtain⟨e,b⟩:=fG (decide (0< (a.size:Int)));have HR:Hid (decide (0<a.size)=e):=by show _=_;rw[<-b,dY];simp
 go_enter func438,ntmps438;exact zX
def yi (c:Nat)(a:K)(d:D)(f:d.cell? ⟨c,10,none⟩=some (.string a)):
 O 439 #[I c] (.bool (decide (a.size<8))) d:=by
 obtain⟨e,b⟩:=fG (decide ((a.size:Int)<8));have HR:Hid (decide (a.size<8)=e):=IZ;go_enter func439,ntmps439;exact zX
def eO (a:P):Nat:=if(decide (a.enable/4%2=1)&&a.lost)=true then 6 else if(decide (a.enable%2=1)&&decide (0<a.rx.size))=true then 4 else if(decide (a.enable/2%2=1)&&decide (a.Wc.size<8))=true then 2 else 1
def jc (a:Nat):((a:Int)==1)=decide (a=1):=by rw[dY];simp;omega
def Fa (c U:Nat)(b:P)(R:b.enable<8)(d:D)(w:Hid (ap d c U b)):
 O 403 #[I c] (j (eO b)) d:=by
 obtain⟨-,-,-,-,-,-,N,-,Q,n,m,-,-,-,-,-,-⟩:=w.out;have e:=l (E9 c b.rx d n);have f:=l (yi c b.Wc d m);unfold eO;obtain⟨a,g⟩:=y (b.enable);obtain⟨S,k⟩:=y (b.lost);obtain⟨K,i⟩:=y (decide (0<b.rx.size));obtain⟨H,h⟩:=y (decide (b.Wc.size<8));rw[<-g]at N R;rw[<-k]at Q;rw[<-i]at e;rw[<-h]at f;rw[<-g,<-k,<-i,<-h];clear g k i h w n m;have d4:(a:Int).tdiv 4=((a/4:Nat):Int):=kl;have d2:(a:Int).tdiv 2=((a/2:Nat):Int):=kl;have z:=j1 (a/4);have x:=j1 (a/2);have T:=j1 a;have C:=jc (a/4%2);have B:=jc (a/2%2);have A:=jc (a%2);have M:a/4<=8:=J;have L:a/2<=8:=J;obtain⟨G,q⟩:=y (decide (a/4%2=1));obtain⟨F,p⟩:=y (decide (a/2%2=1));obtain⟨E,o⟩:=y (decide (a%2=1));rw[<-q]at C|-;rw[<-p]at B|-;rw[<-o]at A|-;clear q p o;obtain⟨Z,v⟩:=y (a/4%2);obtain⟨Y,u⟩:=y (a/2%2);obtain⟨X,t⟩:=y (a%2);rw[<-v]at z C;rw[<-u]at x B;rw[<-t]at T A;clear v u t;obtain⟨W,s⟩:=y (a/4);obtain⟨V,r⟩:=y (a/2);rw[<-s]at d4 z M;rw[<-r]at d2 x L;clear s r;cases G<;>cases S<;>cases E<;>cases K<;>cases F<;>cases H;all_goals
  go_enter func403,ntmps403;exact I4
def hV (a:P):Nat:=(if decide (0<a.rx.size)=true then 1 else 0)+(if a.lost=true then 2 else 0)+(if decide (a.Wc.size<8)=true then 32 else 0)+(if decide (a.Wc.size=0)=true then 64 else 0)
def aeq (b w:Nat)(a:P)(d:D)(c:Hid (ap d b w a)):
 O 417 #[I b] (j (hV a)) d:=by
 have u:=c.out.Xj;have o:=c.out.Xi;have n:=c.out.Xt;have e:=l (E9 b a.rx d o);have f:=l (yi b a.Wc d n);unfold hV;have q:((a.Wc.size:Int)==0)=decide (a.Wc.size=0):=gW;have m:(a.Wc.size==0)=decide (a.Wc.size=0):=gW;obtain⟨v,k⟩:=y (a.lost);obtain⟨s,h⟩:=y (decide (0<a.rx.size));obtain⟨r,g⟩:=y (decide (a.Wc.size<8));obtain⟨t,i⟩:=y (decide (a.Wc.size=0));rw[<-k]at u;rw[<-h]at e;rw[<-g]at f;rw[<-i]at q m;rw[<-k,<-h,<-g,<-i];obtain⟨x,p⟩:=y (a.Wc);rw[<-p]at n q m;clear k h g i c o p;cases v<;>cases s<;>cases r<;>cases t;all_goals
  go_enter func417,ntmps417;exact I4
def abW (b g:Nat)(a:P)(e:D)(f:Hid (ap e b g a)):
 O 371 #[I b] (.bool (decide (a.Wj=1))) e:=by
 have c1:=f.out.c1;have d:=jc a.Wj;obtain⟨h,c⟩:=y (a.Wj);rw[<-c]at c1 d|-;clear c;go_enter func371,ntmps371;exact I5
def Ca (a:D)(b:Nat):Below a.heap.size a (a.drewN b):=⟨rfl,rfl,rfl,aB _,fun _ _=>rfl⟩
def fO (a:P):Bool:=if decide (a.Wv<a.Wh)=true then true else if decide (a.Wh=a.Wv)=true then decide (a.cmp<=a.time)else false
def abX (m v:Nat)(a:P)(u:D)(b:Hid (ap u m v a)):
 ac 372 #[I m] (.bool (fO a)) u:=by
 have c2:=b.out.c2;have c3:=b.out.c3;have c4:=b.out.c4;have c5:=b.out.c5;unfold fO;have g:decide ((a.Wv:Int)< (a.Wh:Int))=decide (a.Wv<a.Wh):=gW;have h:((a.Wh:Int)==(a.Wv:Int))=decide (a.Wh=a.Wv):=ik;have i:decide ((a.cmp:Int)<=(a.time:Int))=decide (a.cmp<=a.time):=gW;obtain⟨k,e⟩:=y (decide (a.Wv<a.Wh));obtain⟨d,c⟩:=y (decide (a.Wh=a.Wv));obtain⟨l,f⟩:=y (decide (a.cmp<=a.time));rw[<-e]at g|-;rw[<-c]at h|-;rw[<-f]at i|-;have r:decide (a.Wv<a.Wh)=k:=e.symm;have s:(a.Wh==a.Wv)=d:=by rw[c,dY];simp
 have t:decide (a.cmp<=a.time)=l:=f.symm;have j:decide (a.Wh=a.Wv)=d:=c.symm;clear e c f b;obtain⟨z,p⟩:=y (a.time);obtain⟨A,q⟩:=y (a.Wh);obtain⟨w,n⟩:=y (a.cmp);obtain⟨x,o⟩:=y (a.Wv);rw[<-p]at c2 i t;rw[<-q]at c3 g h r s j;rw[<-n]at c4 i t;rw[<-o]at c5 g h r s j;clear p q n o;cases k<;>cases d<;>cases l;all_goals
  go_enter func372,ntmps372;go_upto_region 1 with fail;go_quiet (fail);go_wp2_with fail;go_ret;exact⟨rfl,Ca _ _⟩
def abI (b g:Nat)(a:P)(i:a.enable<8)(c:D)(j:Hid (ap c b g a)):
 O 373 #[I b] (.bool (!decide (eO a=1))) c:=by
 have e:=l (Fa b g a i c j);obtain⟨h,f⟩:=y (eO a);rw[<-f]at e|-;have d:((h:Int) !=1)=!decide (h=1):=ik;clear f;go_enter func373,ntmps373;go_wp2_with fail;refine e.out.mono ?_;rintro k m ⟨rfl,rfl⟩;exact I5
def dh (b e:Nat)(a:P)(d:D)(c:Hid (ap d b e a)):
 ac 325 #[I b] (.tuple #[j a.time,j a.Wh]) d:=by
 have c2:=c.out.c2;have c3:=c.out.c3;go_enter func325,ntmps325;go_upto_region 1 with fail;go_quiet (fail);go_wp2_with fail;go_ret2;exact⟨rfl,Ca _ _⟩
def acq (b e:Nat)(a:P)(c:D)(d:Hid (ap c b e a)):
 O 254 #[I b] (j a.o.length) c:=by
 have f:=d.out.V8;go_enter func254,ntmps254;exact cm
def ap.Zb {f:D}{a b:Nat}{e:P}(c:ap f a b e)(g:Nat):ap (f.setCell ⟨a,1,none⟩ (j (g:Nat))) a b {e with Wj:=g}:=jH
def ap.YO {f:D}{a b:Nat}{e:P}(c:ap f a b e)(g:Nat):ap (f.setCell ⟨a,2,none⟩ (j (g:Nat))) a b {e with time:=g}:=jH
def ap.YP {f:D}{a b:Nat}{e:P}(c:ap f a b e)(g:Nat):ap (f.setCell ⟨a,3,none⟩ (j (g:Nat))) a b {e with Wh:=g}:=jH
def ap.Yz {f:D}{a b:Nat}{e:P}(c:ap f a b e)(g:Nat):ap (f.setCell ⟨a,4,none⟩ (j (g:Nat))) a b {e with cmp:=g}:=jH
def ap.Zc {f:D}{a b:Nat}{e:P}(c:ap f a b e)(g:Nat):ap (f.setCell ⟨a,5,none⟩ (j (g:Nat))) a b {e with Wv:=g}:=jH
def ap.Zd {f:D}{a b:Nat}{e:P}(c:ap f a b e)(g:Nat):ap (f.setCell ⟨a,6,none⟩ (j (g:Nat))) a b {e with enable:=g}:=jH
def ap.Ze {f:D}{a b:Nat}{e:P}(c:ap f a b e)(g:Nat):ap (f.setCell ⟨a,7,none⟩ (j (g:Nat))) a b {e with Wr:=g}:=jH
def ap.YQ {f:D}{a b:Nat}{e:P}(c:ap f a b e)(g:Bool):ap (f.setCell ⟨a,8,none⟩ (.bool g)) a b {e with lost:=g}:=jH
def ap.YR {f:D}{a b:Nat}{e:P}(c:ap f a b e)(g:K):ap (f.setCell ⟨a,9,none⟩ (.string g)) a b {e with rx:=g}:=jH
def ap.YS {f:D}{a b:Nat}{e:P}(c:ap f a b e)(g:K):ap (f.setCell ⟨a,10,none⟩ (.string g)) a b {e with Wc:=g}:=jH
def qm {d:D}{b f:Nat}{c:Value}{a:List Nat}(e:b∈a):Kept a d (d.setCell ⟨b,f,none⟩ c):=(Kept.refl _ _).setCell (.inl e) c
def dv (a:P)(b:Int):Nat×P:=
 if b=33554432 then(a.Wj,a)else if b=33570816 then(a.cmp,a)else if b=33570820 then(a.Wv,a)else if b=33603576 then(a.time,a)else if b=33603580 then(a.Wh,a)
 else if b=268435456 then(if c:0<a.rx.size then(a.rx[0].toNat,{a with rx:=a.rx.extract 1 a.rx.size})else(0,a))
 else if b=268435457 then(a.enable,a)else if b=268435458 then(eO a,a)else if b=268435461 then(hV a,{a with lost:=false})else(a.Wr,a)
def a9 (a:P)(b c:Int):Nat×P:=if aZ b c a.o.length=true then(cb a (b-2147483648).toNat c.toNat,a)else if bD b c a.o.length=true then dv a b else(0,a)
def x2 {c b:Int}{e:Nat}(f:aZ c b e=false)(a:bD c b e=true):(eK c=true/\b=4)\/(ep c=true/\b=1):=by
 unfold bD at a;rw[f]at a;simp only[eh,cP]at a;split at a
 . next d=>left;exact⟨d,by simpa using a⟩
 . split at a
   . next d=>right;exact⟨d,by simpa using a⟩
   . cases a
theorem yc (k p:Nat)(b:P)(u:aS b)(d c:Int)(M:-1099511627776<=d)(N:d<=1099511627776)(K:-1024<=c)(L:c<=1024)(h:D)(a:Hid (ap h k p b)):
 Calls prog 393 #[I k,j d,j c] h fun g w=>g=.returned (j (a9 b d c).1)/\ap w k p (a9 b d c).2/\Kept [k] h w:=by
 have G:=a.out.V8;cases hd:aZ d c b.o.length with
 |true=>
  have g:a9 b d c=(cb b (d-2147483648).toNat c.toNat,b):=by unfold a9;rw[B hd]
  rw[g];unfold aZ at hd;simp only[cA]at hd;have S:c=(c.toNat:Int):=J;have H:=yd k p b u d (d-2147483648).toNat c.toNat m m m m h a;rw[<-S]at H;exact H.mono fun g w n=>⟨n.1,by rw[n.2];exact a.out,by rw[n.2];exact Kept.refl _ _⟩
 |false=>
  have n:=iN k p d c M N K L b.o.length u.o h G;have q:=tS k p d c M N K L b.o.length u.o h G;rw[hd]at n;cases o:bD d c b.o.length with
  |false=>
   have g:a9 b d c=(0,b):=by unfold a9;rw[z (by rw[hd];decide),z (by rw[o];decide)]
   rw[g];rw[o]at q;have s:=l n;have t:=l q;clear n q hd o g;go_enter oF,oG;go_wp2_with fail;refine s.out.mono ?_;rintro g r ⟨rfl,rfl⟩;go_wp2_with fail;refine t.out.mono ?_;rintro g r ⟨rfl,rfl⟩;go_wp2_with fail;go_ret;exact⟨rfl,a.out,Kept.refl _ _⟩
  |true=>
   have g:a9 b d c=dv b d:=by unfold a9;rw[z (by rw[hd];decide),B o]
   rw[g];have i:=x2 hd o;rw[o]at q;have s:=l n;have t:=l q;clear n q hd o g;unfold eK ep at i;simp only[cA]at i;by_cases W:d=33554432
   . subst W;have f:c=4:=J;subst f;clear i;have c1:=a.out.c1;have e:dv b 33554432=(b.Wj,b):=kn;exact ng
   by_cases X:d=33570816
   . subst X;have f:c=4:=J;subst f;clear i;have c4:=a.out.c4;have e:dv b 33570816=(b.cmp,b):=kn;exact ng
   by_cases Y:d=33570820
   . subst Y;have f:c=4:=J;subst f;clear i;have c5:=a.out.c5;have e:dv b 33570820=(b.Wv,b):=kn;exact ng
   by_cases Z:d=33603576
   . subst Z;have f:c=4:=J;subst f;clear i;have c2:=a.out.c2;have e:dv b 33603576=(b.time,b):=kn;exact ng
   by_cases aa:d=33603580
   . subst aa;have f:c=4:=J;subst f;clear i;have c3:=a.out.c3;have e:dv b 33603580=(b.Wh,b):=kn;exact ng
   by_cases ab:d=268435456
   . subst ab;have f:c=1:=J;subst f;clear i;have am:=a.out.Xi;by_cases O:0<b.rx.size
     . have e:dv b 268435456=(b.rx[0].toNat,{b with rx:=b.rx.extract 1 b.rx.size}):=by unfold dv;simp[O]
       rw[e];clear e;have A:=a.out.YR (b.rx.extract 1 b.rx.size);obtain⟨R,v⟩:=y (b.rx.extract 1 b.rx.size);rw[<-v]at A;simp only[<-v];have an:∀h,(Instr.slice 9 (.string b.rx) (some (.int .i64 1)) none none).run prog h=.ok (.string R) h:=by
        intro h;rw[v,uw h 9 b.rx .i64 1 h5,B ⟨by omega,by omega⟩];simp
       have E:=l A;have U:=gI b.rx[0];obtain⟨ah,C⟩:=y (b.rx[0].toNat);simp only[<-C]at U|-;have ai:b.rx[0].toNat=ah:=C.symm;clear C;have ag:((b.rx.size:Int)==0)=false:=gU;have Q:(b.rx.size==0)=false:=gU;have T:=a.out.Wb;have V:=a.out.lt;clear v A;go_enter oF,oG;go_wp2_with fail;refine s.out.mono ?_;rintro g r ⟨rfl,rfl⟩;go_wp2_with fail;refine t.out.mono ?_;exact I7
     . have e:dv b 268435456=(0,b):=by unfold dv;simp[O]
       rw[e];clear e;have ag:((b.rx.size:Int)==0)=true:=jC;have Q:(b.rx.size==0)=true:=jC;exact I8
   by_cases ac:d=268435457
   . subst ac;have f:c=1:=J;subst f;clear i;have aj:=a.out.W4;have e:dv b 268435457=(b.enable,b):=kn;exact ng
   by_cases ad:d=268435458
   . subst ad;have f:c=1:=J;subst f;clear i;have x:=l (Fa k p b u.enable h a);have e:dv b 268435458=(eO b,b):=kn;rw[e];clear e;go_enter oF,oG;go_wp2_with fail;refine s.out.mono ?_;rintro g r ⟨rfl,rfl⟩;go_wp2_with fail;refine t.out.mono ?_;rintro g r ⟨rfl,rfl⟩;go_wp2_with fail;refine x.out.mono ?_;exact ajw
   by_cases ae:d=268435461
   . subst ae;have f:c=1:=J;subst f;clear i;have x:=l (aeq k p b h a);have e:dv b 268435461=(hV b,{b with lost:=false}):=kn;rw[e];clear e;have al:=a.out.Xj;have E:=l (a.out.YQ false);have T:=a.out.Wb;have V:=a.out.lt;go_enter oF,oG;go_wp2_with fail;refine s.out.mono ?_;rintro g r ⟨rfl,rfl⟩;go_wp2_with fail;refine t.out.mono ?_;rintro g r ⟨rfl,rfl⟩;go_wp2_with fail;refine x.out.mono ?_;exact I7
   by_cases af:d=268435463
   . subst af;have f:c=1:=J;subst f;clear i;have ak:=a.out.W5;have e:dv b 268435463=(b.Wr,b):=kn;exact ng
   exfalso;omega
namespace u
def cZ (a:Nat):List L:=120::Lib.decDigits a
end u
def ea {a b c:K}(e:a++b=c)(f:a.size+b.size<=100000)(d:D):(Op.stringOp .add a b).run prog d=.ok (.string c) d:=Ja
def hc (a b:List L):(⟨a.toArray⟩:K)++⟨b.toArray⟩=⟨(a++b).toArray⟩:=ByteArray.mk_append_mk a b
def CZ :((List.range 100).all fun a=>decide ((Lib.decDigits a).length<=10))=true:=by decide+kernel
def nu (a:Nat)(h:a<100)(b:D):
 O 303 #[j a] (u.aG (u.cZ a)) b:=by
 have g:=cX.1 CZ a (by simpa using h);rw[cA]at g;obtain⟨e,c⟩:=y (⟨(Lib.decDigits a).toArray⟩:K);obtain⟨f,d⟩:=y (⟨(u.cZ a).toArray⟩:K);have o:∀b,(Op.stringOp .add ⟨#[120]⟩ e).run prog b=.ok (.string f) b:=fun b=>ea (a:=⟨#[120]⟩) (b:=e) (c:=f) (by rw[c,d];exact hc [120] _) (by rw[c];simp[ByteArray.size];omega) b;have k:=l d;have i:=l c;clear d c g;go_enter func303,ntmps303;go_wp2_with fail;refine(Tryz.strconv_Itoa_small a h _).mono ?_;rintro n m ⟨rfl,rfl⟩;rw[<-i.out];go_wp2;go_ret;exact⟨by unfold u.aG;rw[<-k.out];rfl,rfl⟩
def bb (e:D)(c d:Nat)(b:List (List L)):Prop:=∀a (f:a<b.length),e.cell? ⟨c,d+a,none⟩=some (u.aG b[a])
def bb.below {g c:D}{a b:Nat}{d:List (List L)}(h:bb g a b d){f:Nat}(i:Below f g c)(k:a<f):bb c a b d:=fun e j=>by
 rw[i.cell (p:=⟨a,b+e,none⟩) k];exact h e j
theorem bb.drop {f:D}{e c:Nat}{d:List (List L)}(h:bb f e c d)(a:Nat):bb f e (c+a) (d.drop a):=fun b i=>by
 have g:a+b<d.length:=by simp at i;omega
 have:=h (a+b) g
 rw[List.getElem_drop,show c+a+b=c+(a+b)by omega];exact this
def bb.Y0 {e:D}{f:Nat}{d:Value}{a:List (List L)}(h:e.ownsRow f 9 1 d a.length (a.map u.aG))(l:d≠ .slice none 0 0):
 ∃b c,d=.slice (some ⟨b,0,none⟩) a.length c/\f<=b/\b<e.heap.size/\bb e b 0 a:=by
 rcases h.2 with⟨m,_⟩|⟨g,c,o,rfl,i,j,p⟩
 . exact absurd m l
 . refine⟨g,c,rfl,i,(rm.1 j).1,fun n k=>?_⟩;rw[eg,h.cellAt n (by omega)];rw[rg,fa k];rfl
def nv (c f h:Nat)(a:List (List L))(m:a.length<=5000)(b:Nat)(n:b<=10000)(g:D)(k:Hid (bb g c f a)):
 O 309 #[.slice (some ⟨c,f,none⟩) a.length h,j b] (u.aG (a[b]?.getD [])) g:=by
 by_cases d:b<a.length
 . have i:=k.out b d;rw[fa d,ux];obtain⟨l,e⟩:=y (u.aG a[b]);rw[<-e]at i|-;clear e;exact Mt
 . rw[uv (by omega)];exact Mt
namespace u
def j3 (b:List L):Nat->Nat->Option Nat
 |0,_=>none
 |c+1,a=>if b=cZ a then some a else j3 b c (a+1)
def cq (a:List L):Option Nat:=j3 a 32 0
end u
def mb (c a:K)(b:List L)(d:a=⟨b.toArray⟩):(c.toList==a.toList)=decide (c.data.toList=b):=by
 rw[mP,mP,d,dY];simp
def nt (a:K)(v:D):
 O 386 #[.string a] (.tuple #[j ((u.cq a.data.toList).getD 0:Nat),.bool (u.cq a.data.toList).isSome]) v:=by
 obtain⟨n,p⟩:=y (u.cq a.data.toList);rw[<-p];have c:=l p;clear p;go_enter func386,ntmps386;go_wp2;go_loop [4] (fun o=>∃i:Nat,i<=32/\o=j i/\Hid (n=u.j3 a.data.toList (32-i) i)) (fun o=>32- (intOf o).toNat);case atStart=>exact vC
 case round=>
  obtain⟨i,x,rfl,b⟩:=hrel;by_cases w:i<32
  . obtain⟨q,h⟩:=y (⟨(u.cZ i).toArray⟩:K);have g:u.aG (u.cZ i)=.string q:=by rw[h];rfl
    have r:=mb a q _ h;have f:n=if a.data.toList=u.cZ i then some i else u.j3 a.data.toList (32- (i+1)) (i+1):=by
     rw[b.out,show 32-i=(32- (i+1))+1 by omega];rfl
    by_cases d:a.data.toList=u.cZ i
    . rw[B d]at f;rw[bc d]at r;have e:=l f;have k:=l g;clear h g f d b c;go_wp2_with(go_at_call 303;refine(nu i m _).mono ?_;rintro t s ⟨rfl,rfl⟩;rw[k.out]);exact vZ
    . rw[z d]at f;rw[aU d]at r;have e:=l f;have k:=l g;clear h g f d b c;go_wp2_with(go_at_call 303;refine(nu i m _).mono ?_;rintro t s ⟨rfl,rfl⟩;rw[k.out]);go_round;case rel=>exact⟨i+1,by omega,by go_num,e⟩
      case measure=>exact a4
  . obtain rfl:i=32:=by omega
    have p:Hid (n=none):=b;exact Mu
def nG (a:Nat)(b:a<=1099511627776):(Lib.decDigits a).length<=30:=by
 have:=Lib.itoa_length_le a m m;rw[Lib.itoa_nonneg]at this;omega
def Qi (a:Int)(b:D):(convert 64 9 (.slice (some ⟨b.heap.size,0,none⟩) 1 1)).run prog (b.alloc (.cells #[.int .u8 a] 5))=.ok (.string (strOfNums [a])) (b.alloc (.cells #[.int .u8 a] 5)):=by
 refine um _ 64 5 gP oD b.heap.size 0 1 1 [a] rfl (fun i c=>?_) 9 h5;obtain rfl:i=0:=by omega
 rw[cell_of_row _ _ _ #[.int .u8 a] 5 (0,0) (heap_alloc_new b _)];rfl
def aak (a:Nat)(i:a<10)(e:D):
 ac 160 #[j a] (u.aG [UInt8.ofNat (48+a)]) e:=by
 have f:=Qi (48+a) e;have d:u.aG [UInt8.ofNat (48+a)]=.string (strOfNums [48+(a:Int)]):=by
  unfold strOfNums u.aG;rw[show(48+(a:Int))=((48+a:Nat):Int)by omega];rfl
 rw[d];obtain⟨c,b⟩:∃c,c=strOfNums [48+(a:Int)]:=⟨_,rfl⟩;rw[<-b]at f|-;clear d b;have g:decide ((a:Int)<0)=false:=bL;have h:decide ((a:Int)<10)=true:=M;go_enter func160,ntmps160;go_upto_region 5 with fail;go_wp2;go_ret;exact Mv
theorem qY :∀(a:Nat),a<=1099511627776->∀c:D,
 ac 160 #[j a] (u.aG (Lib.decDigits a)) c:=by
 intro a;induction a using Nat.strongRecOn with
 |ind a p=>
  intro w c;by_cases k:a<10
  . rw[Lib.decDigits_one k];exact aak a k c
  . obtain⟨f,d⟩:=y (⟨(Lib.decDigits (a/10)).toArray⟩:K);obtain⟨g,e⟩:=y (⟨(Lib.decDigits (a%10)).toArray⟩:K);obtain⟨h,o⟩:=y (⟨(Lib.decDigits a).toArray⟩:K);have v:∀c,(Op.stringOp .add f g).run prog c=.ok (.string h) c:=fun c=>ea (a:=f) (b:=g) (c:=h) (by
     rw[d,e,o,hc];congr 2;rw[Lib.decDigits_one (show a%10<10 by omega),Lib.decDigits.eq_def a,dif_neg k]) (by rw[d,e];have:=nG (a/10) m;have:=nG (a%10) m;simp[ByteArray.size];omega) c
    have i:=p (a/10) m m;have n:=p (a%10) m m;rw[show u.aG (Lib.decDigits (a/10))=.string f by rw[d];rfl]at i;rw[show u.aG (Lib.decDigits (a%10))=.string g by rw[e];rfl]at n;rw[show u.aG (Lib.decDigits a)=.string h by rw[o];rfl];have q:=l i;have r:=l n;clear i n d e o p;go_enter func160,ntmps160;go_wp2_with fail;rw[show(a:Int)/10=((a/10:Nat):Int)by omega];refine(q.out _).mono ?_;rintro t x ⟨rfl,b⟩;clear q;go_wp2_with fail;rw[show(a:Int)%10=((a%10:Nat):Int)by omega];refine(r.out _).mono ?_;rintro t z ⟨rfl,s⟩;clear r;go_wp2;exact ajG
def tO (b:Int)(k:-1099511627776<=b)(n:b<=1099511627776)(c:D):
 ac 160 #[j b] (u.aG (Lib.itoa b)) c:=by
 by_cases q:b<0
 . obtain⟨a,p⟩:∃a:Nat,b=-(a:Int):=⟨b.natAbs,by omega⟩;subst p;obtain⟨e,d⟩:=y (⟨(Lib.decDigits a).toArray⟩:K);obtain⟨f,h⟩:=y (⟨(Lib.itoa (-(a:Int))).toArray⟩:K);have s:∀c,(Op.stringOp .add ⟨#[45]⟩ e).run prog c=.ok (.string f) c:=fun c=>ea (a:=⟨#[45]⟩) (b:=e) (c:=f) (by
    rw[d,h,Lib.itoa_neg a (by omega)];exact hc [45] _) (by rw[d];have:=nG a m;simp[ByteArray.size];omega) c
   have g:=qY a m;rw[show u.aG (Lib.decDigits a)=.string e by rw[d];rfl]at g;rw[show u.aG (Lib.itoa (-(a:Int)))=.string f by rw[h];rfl];have i:=l g;clear g d h;have t:1<=a:=J;have v:a<=1099511627776:=J;clear q k n;go_enter func160,ntmps160;go_wp2_with fail;refine(i.out _).mono ?_;rintro r w ⟨rfl,o⟩;clear i;go_wp2;go_ret;exact⟨rfl,o⟩
 . obtain⟨a,rfl⟩:∃a:Nat,b=(a:Int):=⟨b.toNat,by omega⟩;rw[Lib.itoa_nonneg];exact qY a m c
def x7 (a:K)(b:D):
 ac 360 #[.string a] (.tuple #[j ((u.cq a.data.toList).getD 0:Nat),.bool (u.cq a.data.toList).isSome]) b:=by
 obtain⟨t,f⟩:=y (u.cq a.data.toList);rw[<-f];have n:=l f;clear f;go_enter func360,ntmps360;go_wp2;go_loopw [4] (fun w wr=>∃i:Nat,i<=32/\w=j i/\Below b.heap.size b wr/\Hid (t=u.j3 a.data.toList (32-i) i)) (fun w _=>32- (intOf w).toNat);case atStart=>exact⟨0,by omega,rfl,aq _ _,n⟩
 case round=>
  obtain⟨i,G,rfl,g,h⟩:=hrel;by_cases F:i<32
  . obtain⟨q,e⟩:=y (⟨(Lib.decDigits i).toArray⟩:K);obtain⟨v,o⟩:=y (⟨(u.cZ i).toArray⟩:K);have E:∀b,(Op.stringOp .add ⟨#[120]⟩ q).run prog b=.ok (.string v) b:=fun b=>ea (a:=⟨#[120]⟩) (b:=q) (c:=v) (by
     rw[e,o];exact hc [120] _) (by rw[e];have:=nG i m;simp[ByteArray.size];omega) b
    have k:u.aG (Lib.decDigits i)=.string q:=by rw[e];rfl
    have x:=mb a v _ o;have d:t=if a.data.toList=u.cZ i then some i else u.j3 a.data.toList (32- (i+1)) (i+1):=by
     rw[h.out,show 32-i=(32- (i+1))+1 by omega];rfl
    by_cases c:a.data.toList=u.cZ i
    . rw[B c]at d;rw[bc c]at x;have r:=l d;have s:=l k;clear o k d c h n e;go_wp2_with(go_at_call 160;refine(qY i m _).mono ?_;rintro C A ⟨rfl,p⟩;rw[s.out]);go_ret2;exact⟨by rw[r.out];rfl,g.trans (p.mono g.size)⟩
    . rw[z c]at d;rw[aU c]at x;have r:=l d;have s:=l k;clear o k d c h n e;go_wp2_with(go_at_call 160;refine(qY i m _).mono ?_;rintro C A ⟨rfl,p⟩;rw[s.out]);go_roundw;case rel=>exact⟨i+1,by omega,by go_num,g.trans (p.mono g.size),r⟩
      case measure=>exact a4
  . obtain rfl:i=32:=by omega
    have f:Hid (t=none):=h;clear h n;go_wp2;go_ret2;exact⟨by rw[f.out];rfl,g⟩
end Go.Proofs.YtmlgonbhoknoiabGreatDoor
