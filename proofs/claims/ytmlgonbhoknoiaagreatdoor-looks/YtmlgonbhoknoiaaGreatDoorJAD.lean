import Derived.Test.YtmlgonbhoknoiaaGreatDoorJAC
set_option maxHeartbeats 8000000
set_option maxRecDepth 100000
set_option linter.all false
namespace Go.Proofs.YtmlgonbhoknoiaaGreatDoor
open Go.RowKit Go.Proofs.Tryz
namespace u
def cI (a:List L):Nat:=match a with
 |[]=>0
 |b::a=>if dh b=true then cI a+1 else 0
def isName (a:List L):Bool:=match a with
 |[]=>false
 |b::_=>!(bn b)&&a.all cl
def plain (a:List L):Option Nat:=
 if 2<a.length/\a[0]?=some 48/\a[1]?=some 120 then dw 16 8 (a.drop 2)else dw 10 10 a
end u
theorem xl :∀a:List L,u.cI a<=a.length
 |[]=>by simp[u.cI]
 |b::a=>by
  have:=xl a
  simp only[u.cI,c9];split<;>omega
def Cf (a:L):u.dh a=(u.cl a ||((a.toNat:Int)==45)):=by
 unfold u.dh;congr 1;rw[dZ,cC,bb];omega
def Oz (a:K)(v:a.size<=5000)(c:Nat)(o:c<=a.size)(q:D):
 O 250 #[.string a,j c] (j (c+u.cI (a.data.toList.drop c):Nat)) q:=by
 obtain⟨d,e⟩:=y (c+u.cI (a.data.toList.drop c));rw[<-e];have n:=l e;clear e;go_enter func250,ntmps250;go_wp2;go_loop [1] (fun g=>∃i:Nat,i<=a.size/\g=j i/\Hid (d=i+u.cI (a.data.toList.drop i))) (fun g=>a.size- (intOf g).toNat);case atStart=>exact⟨c,o,rfl,n⟩
 case round=>
  obtain⟨i,t,rfl,b⟩:=hrel;by_cases p:i<a.size
  . rw[eF a i p]at b;have f:=Cf a[i];cases h:u.cl a[i]
    . cases k:((a[i].toNat:Int)==45)
      . have e:Hid (d=i):=(by rw[b.out];simp only[u.cI];rw[f,h,k,z (by decide)];rfl:d=i);clear b f;go_wp2_with(go_at_call 326;refine(sg _ _).mono ?_;rintro s r ⟨rfl,rfl⟩);exact HX
      . have m:Hid (d=i+1+u.cI (a.data.toList.drop (i+1))):=(by rw[b.out];simp only[u.cI];rw[f,h,k,B (by rfl)];omega:_=_);exact HY
    . have m:Hid (d=i+1+u.cI (a.data.toList.drop (i+1))):=(by rw[b.out];simp only[u.cI];rw[f,h,B (by rfl)];omega:_=_);exact HY
  . obtain rfl:i=a.size:=by omega
    have hd:a.data.toList.drop a.size=[]:=rw;rw[hd]at b;have e:Hid (d=a.size):=b;clear b hd;exact rU
def Ql {a:K}(b:a.size=0):a.toList.isEmpty=true:=by
 rw[mR,List.isEmpty_iff];exact yj (by simpa using b)
theorem TE {a:K}(c:0<a.size):a.toList.isEmpty=false:=by
 rw[mR];cases hd:a.data.toList with
 |nil=>
  have:a.data.toList.length=a.size:=by simp
  rw[hd]at this;simp at this;omega
 |cons b d=>rfl
def nl (a:K)(w:a.size<=5000)(t:D):
 O 252 #[.string a] (.bool (u.isName a.data.toList)) t:=by
 by_cases d:a.size=0
 . have p:a.data.toList=[]:=GQ;have r:=Ql d;rw[show u.isName a.data.toList=false by rw[p];rfl];clear p d;go_enter func252,ntmps252;exact m8
 . have q:0<a.size:=J;have r:=TE q;have f:u.isName a.data.toList=(!(u.bn a[0])&& (a.data.toList.drop 0).all u.cl):=by
    have n:=eF a 0 q;rw[jt]at n;conv=>lhs;rw[n]
    simp only[u.isName];rw[<-n];rfl
   rw[f];clear f d;cases hd:u.bn a[0]
   . rw[Bool.not_false,h4];obtain⟨g,o⟩:=y ((a.data.toList.drop 0).all u.cl);rw[<-o];have c:=l o;clear o;go_enter func252,ntmps252;go_wp2_with(go_at_call 327;refine(sf _ _).mono ?_;rintro m h ⟨rfl,rfl⟩);go_loop [3] (fun k=>∃i:Nat,i<=a.size/\k=j i/\Hid (g=(a.data.toList.drop i).all u.cl)) (fun k=>a.size- (intOf k).toNat);case atStart=>exact vg
     case round=>
      obtain⟨i,v,rfl,b⟩:=hrel;by_cases s:i<a.size
      . rw[eF a i s,show(a[i]::a.data.toList.drop (i+1)).all u.cl=(u.cl a[i]&& (a.data.toList.drop (i+1)).all u.cl)from rfl]at b;cases f:u.cl a[i]
        . rw[f,jq]at b;go_wp2_with(go_at_call 326;refine(sg _ _).mono ?_;rintro m h ⟨rfl,rfl⟩);exact zt
        . rw[f,h4]at b;go_wp2_with(go_at_call 326;refine(sg _ _).mono ?_;rintro m h ⟨rfl,rfl⟩);exact HZ
      . exact H0
   . go_enter func252,ntmps252;go_wp2_with(go_at_call 327;refine(sf _ _).mono ?_;rintro m h ⟨rfl,rfl⟩);exact lR
def mh (a:K)(i:Nat)(b:i<a.size):a.data.toList[i]?=some a[i]:=by
 rw[fa (by simpa using b)];rfl
def lh {a:L}{n:Nat}(c:n<256):(a.toNat:Int)=n↔a=UInt8.ofNat n:=H1
def CW {a:K}(d:2<a.size)(b:((a[0].toNat:Int)==48)=true)(c:((a[1].toNat:Int)==120)=true):u.plain a.data.toList=u.dw 16 8 (a.extract 2 a.size).data.toList:=by
 unfold u.plain;replace b:=(lh (n:=48) R).1 (bb.1 b);replace c:=(lh (n:=120) R).1 (bb.1 c);rw[B ⟨by simpa using d,by rw[mh a 0 (by omega),b];rfl,by rw[mh a 1 (by omega),c];rfl⟩,yk]
def xa {a:K}(b:¬2<a.size):u.plain a.data.toList=u.dw 10 10 a.data.toList:=by
 unfold u.plain;rw[z (fun c=>b (by simpa using c.1))]
def CU {a:K}(e:2<a.size)(b:((a[0].toNat:Int)==48)=false):u.plain a.data.toList=u.dw 10 10 a.data.toList:=by
 unfold u.plain;replace b:=fun c=>(b5.1 b) ((lh (n:=48) R).2 c);rw[z (fun d=>b (by have:=d.2.1;rw[mh a 0 (by omega)]at this;exact dr this))]
def CV {a:K}(e:2<a.size)(b:((a[1].toNat:Int)==120)=false):u.plain a.data.toList=u.dw 10 10 a.data.toList:=by
 unfold u.plain;replace b:=fun c=>(b5.1 b) ((lh (n:=120) R).2 c);rw[z (fun d=>b (by have:=d.2.2;rw[mh a 1 (by omega)]at this;exact dr this))]
def A9 (a:K)(k:a.size<=5000)(f:D):
 Calls prog 404 #[.string a] f fun h g=>(∃b:Option Nat,Hid (u.plain a.data.toList=b)/\b.getD 0<=10000000000/\h=.returned (.tuple #[j (b.getD 0:Nat),.bool b.isSome]))/\g=f:=by
 by_cases c1:2<a.size
 . cases d:((a[0].toNat:Int)==48)
   . have c:=l (CU c1 d);exact zu
   . cases e:((a[1].toNat:Int)==120)
     . have c:=l (CV c1 e);exact zu
     . have c:=l (CW c1 d e);go_enter func404,ntmps404;go_wp2_with fail;refine(Ou (a.extract 2 a.size) ad _).mono ?_;exact H2
 . have c:=l (xa c1);exact zu
namespace u
def number (a:List L):Int×Bool:=
 if a[0]?=some 45 then(-(((plain (a.drop 1)).getD 0:Nat):Int),(plain (a.drop 1)).isSome)else((((plain a).getD 0:Nat):Int),(plain a).isSome)
end u
def CI {a:K}(c:0<a.size)(b:((a[0].toNat:Int)==45)=true):u.number a.data.toList=(-(((u.plain (a.extract 1 a.size).data.toList).getD 0:Nat):Int),(u.plain (a.extract 1 a.size).data.toList).isSome):=by
 replace b:=(lh (n:=45) R).1 (bb.1 b);unfold u.number;rw[B (by rw[mh a 0 c,b];rfl),yk]
def sS {b:K}(a:¬(0<b.size)\/∃a:0<b.size,((b[0].toNat:Int)==45)=false):u.number b.data.toList=((((u.plain b.data.toList).getD 0:Nat):Int),(u.plain b.data.toList).isSome):=by
 unfold u.number;rw[z];intro c;rcases a with a|⟨a,d⟩
 . rw[tZ (by simp at a;simp[a])]at c;cases c
 . replace d:=fun e=>(b5.1 d) ((lh (n:=45) R).2 e);rw[mh b 0 a]at c;exact d (dr c)
def jM (a:K)(f:a.size<=5000)(d:D):
 O 375 #[.string a] (.tuple #[j (u.number a.data.toList).1,.bool (u.number a.data.toList).2]) d:=by
 by_cases c1:0<a.size
 . cases c:((a[0].toNat:Int)==45)
   . have b:=l (sS (.inr ⟨c1,c⟩));exact H3
   . have b:=l (CI c1 c);go_enter func375,ntmps375;go_wp2_with fail;refine(A9 (a.extract 1 a.size) ad _).mono ?_;exact vh
 . have b:=l (sS (.inl c1));have c2:decide ((0:Int)< (a.size:Int))=false:=yZ;exact H3
def T1 {a:K}(h:2<=a.size)(b:((a[0].toNat:Int)==48)=true)(c:((a[1].toNat:Int)==120)=true):u.plain a.data.toList=u.dw 16 8 (a.extract 2 a.size).data.toList:=by
 by_cases e:2<a.size
 . exact CW e b c
 . rw[xa e,yk];replace b:=(lh (n:=48) R).1 (bb.1 b);replace c:=(lh (n:=120) R).1 (bb.1 c);have g:a.data.toList=[48,120]:=by
    have d:=eF a 0 m;have f:=eF a 1 m;rw[jt]at d;rw[d,f,b,c,eQ (by simp;omega)];rfl
   rw[g];rfl
def xb {s:K}(a:¬2<=s.size\/(∃a:2<=s.size,((s[0].toNat:Int)==48)=false)\/(∃a:2<=s.size,((s[1].toNat:Int)==120)=false)):u.plain s.data.toList=u.dw 10 10 s.data.toList:=by
 by_cases b:2<s.size
 . rcases a with a|⟨a,c⟩|⟨a,d⟩
   . omega
   . exact CU b c
   . exact CV b d
 . exact xa b
def abi (a:K)(A:a.size<=5000)(w:a.size<2)(p:D):
 Calls prog 388 #[.string a] p fun t s=>(∃n:Option Nat,Hid (u.plain a.data.toList=n)/\n.getD 0<=10000000000/\t=.returned (.tuple #[j (n.getD 0:Nat),.bool n.isSome]))/\s=p:=by
 have d:=xb (s:=a) (.inl m);have q:a.data.toList.length=a.size:=bN;by_cases c1:a.size<1
 . exact H5
 by_cases c2:10<a.size
 . omega
 exact H4
def abg (a:K)(E:a.size<=5000)(A:2<=a.size)(w:((a[0].toNat:Int)==48)=false)(p:D):
 Calls prog 388 #[.string a] p fun t s=>(∃n:Option Nat,Hid (u.plain a.data.toList=n)/\n.getD 0<=10000000000/\t=.returned (.tuple #[j (n.getD 0:Nat),.bool n.isSome]))/\s=p:=by
 have d:=xb (s:=a) (.inr (.inl ⟨A,w⟩));exact H6
def abh (a:K)(G:a.size<=5000)(A:2<=a.size)(E:((a[0].toNat:Int)==48)=true)(w:((a[1].toNat:Int)==120)=false)(p:D):
 Calls prog 388 #[.string a] p fun t s=>(∃n:Option Nat,Hid (u.plain a.data.toList=n)/\n.getD 0<=10000000000/\t=.returned (.tuple #[j (n.getD 0:Nat),.bool n.isSome]))/\s=p:=by
 have d:=xb (s:=a) (.inr (.inr ⟨A,w⟩));exact H6
def abf (f:K)(L:f.size<=5000)(w:2<=f.size)(E:((f[0].toNat:Int)==48)=true)(v:((f[1].toNat:Int)==120)=true)(a:K)(hS:Hid (a=f.extract 2 f.size))(M:∀n,(Instr.slice 9 (.string f) (some (.int .i64 2)) none none).run prog n=.ok (.string a) n)(n:D):
 Calls prog 388 #[.string f] n fun t s=>(∃p:Option Nat,Hid (u.plain f.data.toList=p)/\p.getD 0<=10000000000/\t=.returned (.tuple #[j (p.getD 0:Nat),.bool p.isSome]))/\s=n:=by
 have d:=T1 w E v;rw[<-hS.out]at d;have G:a.data.toList.length=a.size:=bN;by_cases c1:a.size<1
 . exact H7
 by_cases c2:8<a.size
 . exact H7
 replace d:=d.trans (show u.dw 16 8 a.data.toList=u.df 16 0 (a.data.toList.drop 0)by unfold u.dw;rw[z (by omega)];rfl);obtain⟨k,q⟩:=y (u.df 16 0 (a.data.toList.drop 0));rw[<-q]at d;have r:=l d;have A:Hid (u.df 16 0 (a.data.toList.drop 0)=k):=q.symm;clear q d G;go_enter func388,ntmps388;go_wp2;go_loop [6,7] (fun C e=>∃i b:Nat,i<=a.size/\C=j b/\e=j i/\Hid (b+1<=16^i)/\Hid (u.df 16 b (a.data.toList.drop i)=k)) (fun _ e=>a.size- (intOf e).toNat);case atStart=>exact HW
 case round=>
  obtain⟨i,b,J,rfl,rfl,o,c⟩:=hrel;have H:b<=4294967296:=by
   have v:=o.out;have w:16^i<=16^8:=ke;have I:((16:Nat)^8)=4294967296:=cM;omega
  by_cases h:i<a.size
  . go_wp2_with fail;refine(Ev a[i] _).mono ?_;rintro t s ⟨rfl,rfl⟩;obtain⟨e,hd⟩:=y (u.cq a[i]);rw[<-hd];have g:=l hd;clear hd;by_cases d16:e=16
    . exact FJ
    rw[z d16];by_cases x:16<=e
    . exact FK
    . exact HV
  . obtain rfl:i=a.size:=by omega
    have hd:a.data.toList.drop a.size=[]:=rw;exact akc
def Ey (a:K)(c:a.size<=5000)(b:D):
 Calls prog 388 #[.string a] b fun i h=>(∃d:Option Nat,Hid (u.plain a.data.toList=d)/\d.getD 0<=10000000000/\i=.returned (.tuple #[j (d.getD 0:Nat),.bool d.isSome]))/\h=b:=by
 by_cases k:a.size<2
 . exact abi a c k b
 . have e:2<=a.size:=J;cases f:((a[0].toNat:Int)==48)
   . exact abg a c e f b
   . cases g:((a[1].toNat:Int)==120)
     . exact abh a c e f g b
     . exact abf a c e f g (a.extract 2 a.size) rfl (fun b=>by
        rw[ua b 9 a .i64 2 h5,B (by omega)];rfl) b
def Ew (a:K)(f:a.size<=5000)(d:D):
 O 359 #[.string a] (.tuple #[j (u.number a.data.toList).1,.bool (u.number a.data.toList).2]) d:=by
 by_cases c1:0<a.size
 . cases c:((a[0].toNat:Int)==45)
   . have b:=l (sS (.inr ⟨c1,c⟩));exact H8
   . have b:=l (CI c1 c);go_enter func359,ntmps359;go_wp2_with fail;refine(Ey (a.extract 1 a.size) ad _).mono ?_;exact vh
 . have b:=l (sS (.inl c1));have c2:decide ((0:Int)< (a.size:Int))=false:=yZ;exact H8
def TD (a:L):(u.dh a&&!((a.toNat:Int)==45))=u.cl a:=by
 rw[Cf];cases b:((a.toNat:Int)==45)
 . simp
 . rw[bb]at b;have:u.cl a=false:=by simp[u.cl,u.cH,u.bn];omega
   simp[this]
def Tq (a:L)(b:List L):u.isName (a::b)=(u.cH a&& (a::b).all u.cl):=by
 simp only[u.isName,ye,u.cl];cases c:u.cH a<;>cases hd:u.bn a<;>simp;simp[u.cH,u.bn]at c hd;omega
def qI (a:K)(x:a.size<=5000)(v:D):
 O 226 #[.string a] (.bool (u.isName a.data.toList)) v:=by
 by_cases d:a.size=0
 . have q:a.data.toList=[]:=GQ;have r:((a.size:Int)==0)=true:=jz;rw[show u.isName a.data.toList=false by rw[q];rfl];clear q d;go_enter func226,ntmps226;exact m8
 . have t:0<a.size:=J;have r:((a.size:Int)==0)=false:=gV;have f:u.isName a.data.toList=(u.cH a[0]&& (a.data.toList.drop 0).all u.cl):=by
    have k:=eF a 0 t;rw[jt]at k;conv=>lhs;rw[k]
    rw[Tq,<-k];rfl
   rw[f];clear f d;cases hd:u.cH a[0]
   . go_enter func226,ntmps226;go_wp2_with(go_at_call 309;refine(xK _ _).mono ?_;rintro o n ⟨rfl,rfl⟩);exact lR
   . rw[h4];obtain⟨g,m⟩:=y ((a.data.toList.drop 0).all u.cl);rw[<-m];have c:=l m;clear m;go_enter func226,ntmps226;go_wp2_with(go_at_call 309;refine(xK _ _).mono ?_;rintro o n ⟨rfl,rfl⟩);go_loop [4] (fun h=>∃i:Nat,i<=a.size/\h=j i/\Hid (g=(a.data.toList.drop i).all u.cl)) (fun h=>a.size- (intOf h).toNat);case atStart=>exact vg
     case round=>
      obtain⟨i,w,rfl,b⟩:=hrel;by_cases s:i<a.size
      . rw[eF a i s,show(a[i]::a.data.toList.drop (i+1)).all u.cl=(u.cl a[i]&& (a.data.toList.drop (i+1)).all u.cl)from rfl,<-TD]at b;cases f:u.dh a[i]
        . rw[f,jq,jq]at b;exact H9
        . cases p:((a[i].toNat:Int)==45)
          . rw[f,p,Bool.not_false,h4,h4]at b;go_wp2_with(go_at_call 308;refine(tt _ _).mono ?_;rintro o n ⟨rfl,rfl⟩);exact HZ
          . rw[f,p,Bool.not_true,h4,jq]at b;exact H9
      . exact H0
namespace u
def tok :Nat->List L->List (List L)
 |0,_=>[]
 |_+1,[]=>[]
 |c+1,a::b=>if a.toNat=35 then[]else if 0<cI (a::b)then(a::b).take (cI (a::b))::tok c ((a::b).drop (cI (a::b)))else if blank a=true then tok c b else[a]::tok c b
def aG (a:List L):Value:=.string ⟨a.toArray⟩
end u
theorem tn :∀(b g:Nat) (a:List L),a.length<=b->a.length<=g->u.tok b a=u.tok g a
 |0,0,_,_,_=>rfl
 |0,g+1,[],_,_=>rfl
 |b+1,0,[],_,_=>rfl
 |0,_+1,c::a,d,_=>by simp at d
 |_+1,0,c::a,_,d=>by simp at d
 |b+1,g+1,[],_,_=>rfl
 |b+1,g+1,c::a,e,f=>by
  simp only[c9]at e f
  simp only[u.tok]
  by_cases c1:c.toNat=35
  . rw[B c1,B c1]
  . rw[z c1,z c1]
    by_cases c2:0<u.cI (c::a)
    . rw[B c2,B c2,tn b g _ (by simp;omega) (by simp;omega)]
    . rw[z c2,z c2,tn b g a (by omega) (by omega)]
theorem wt (c:K)(a b:Nat):Value.string (c.extract a b)=u.aG ((c.data.toList.drop a).take (b-a)):=by
 unfold u.aG;congr 1;have d:=Lib.extract_data c a b;cases hd:c.extract a b with
 |mk e=>
  rw[hd]at d;simp only at d;rw[<-d]
def Tryz.YN :(prog.info? 9).map (fun i=>(i.zero,i.size,i.bytes))=some (some (.string ⟨#[]⟩),1,16):=by kernel_rfl
def mz (c:K)(b a:Nat)(e:b<=a)(f:a<=c.size)(d:D):(Instr.slice 9 (.string c) (some (.int .i64 (b:Int))) (some (.int .i64 (a:Int))) none).run prog d=.ok (.string (c.extract b a)) d:=by
 rw[run_slice_string d 9 c .i64 .i64 b a h5 (by omega) (by omega) (by omega)];simp
def OA (a:K)(ag:a.size<=5000)(c:D):
 Calls prog 181 #[.string a] c fun w v=>∃k,w=.returned k/\k≠ .slice none 0 0/\v.ownsRow c.heap.size 9 1 k (u.tok a.size a.data.toList).length ((u.tok a.size a.data.toList).map u.aG)/\Below c.heap.size c v:=by
 have am:∀c,(Instr.makeSlice 165 (.int .i64 0) (.int .i64 0)).run prog c=.ok (.slice (some ⟨c.heap.size,0,none⟩) 0 0) (c.alloc (.cells #[] 9)):=fun _=>by kernel_rfl
 obtain⟨ae,S,aa,ab,ac⟩:=hy Tryz.YN;obtain⟨e,H⟩:=y (u.tok a.size a.data.toList);rw[<-H];have av:=l H;clear H;go_enter func181,ntmps181;go_wp2;go_loopw [3,4] (fun k G wr=>∃(b:Nat) (p:List (List L)),b<=a.size/\p.length<=b/\G=j b/\k≠ .slice none 0 0/\wr.ownsRow c.heap.size 9 1 k p.length (p.map u.aG)/\Below c.heap.size c wr/\Hid (e=p++u.tok (a.size-b) (a.data.toList.drop b))) (fun _ G _=>a.size- (intOf G).toNat);case atStart=>exact Ih
 case round=>
  obtain⟨b,p,al,an,rfl,V,h,o,s⟩:=hrel;by_cases T:b<a.size
  . have A:=eF a b T;have C:a.size-b=(a.size-b-1)+1:=J;have W:=o.size;have X:∀af,u3.ownBlock=some af->c.heap.size<=af:=uX;by_cases x:a[b].toNat=35
    . exact Ia
    . have aj:((a[b].toNat:Int) !=35)=true:=M;have Y:u.cI (a.data.toList.drop b)<=a.size-b:=Hb;obtain⟨r,F⟩:=y (u.cI (a.data.toList.drop b));rw[<-F]at Y;have HR:=l F;have Z:e=p++(if 0<r then(a.data.toList.drop b).take r::u.tok (a.size-b-1) ((a.data.toList.drop b).drop r)else if u.blank a[b]=true then u.tok (a.size-b-1) (a.data.toList.drop (b+1))else[a[b]]::u.tok (a.size-b-1) (a.data.toList.drop (b+1))):=by
       rw[s.out,F,C,A];simp only[u.tok];rw[z x];simp only[Nat.add_sub_cancel]
      clear F s A C x;have f:=l Z;clear Z;go_wp2_with fail;refine(Oz a ag b m _).mono ?_;rintro w v ⟨rfl,rfl⟩;rw[<-HR.out];clear HR;obtain⟨d,E⟩:=y (b+r);rw[<-E];have i:=l E;have O:d<=a.size:=J;by_cases U:0<r
      . have ak:b<d:=J;clear E;have q:Hid (e=(p++[(a.data.toList.drop b).take r])++u.tok (a.size-d) (a.data.toList.drop d)):=by
         show e=_;rw[i.out,f.out,B U,ls,tn (a.size-b-1) (a.size- (b+r)) _ (by simp;omega) (by simp)];simp
        clear f Y U;obtain⟨n,g⟩:=y (a.extract b d);have ah:∀c,(Instr.slice 9 (.string a) (some (.int .i64 (b:Int))) (some (.int .i64 (d:Int))) none).run prog c=.ok (.string n) c:=by
         intro c;rw[g];exact mz a b d m O c
        have I:=l g;clear g;go_wp2_with(at_builtin;refine j8 _ rfl (.tmp 34) (.tmp 39) 165 rfl c.heap.size 9 ae (.string ⟨#[]⟩) 1 16 Tryz.underlying165 S aa ab ac rfl R _ _ _ rfl (h.alloc _) ⟨v.heap.size,0,none⟩ 1 1 [.string n] rfl rfl ?c1 ?c2 ?c3 ?c4 ?c5 ?_);case c1=>
         exact m9
        case c2=>exact ps
        case c3=>exact gq
        case c4=>omega
        case c5=>simp;omega
        exact Ic
      . obtain rfl:r=0:=by omega
        have P:d=b:=J;rw[P];clear E i O P;rw[z (by omega)]at f;cases Q:u.blank a[b]
        . rw[Q,z (by decide)]at f;have q:Hid (e=(p++[[a[b]]])++u.tok (a.size- (b+1)) (a.data.toList.drop (b+1))):=by
           show e=_;rw[f.out,show a.size- (b+1)=a.size-b-1 by omega];simp
          clear f;have N:(a.data.toList.drop b).take 1=[a[b]]:=by rw[eF a b T];rfl
          have au:=l N;clear N;obtain⟨n,g⟩:=y (a.extract b (b+1));have ah:∀c,(Instr.slice 9 (.string a) (some (.int .i64 (b:Int))) (some (.int .i64 ((b:Int)+1))) none).run prog c=.ok (.string n) c:=by
           intro c;rw[g];exact mz a b (b+1) m m c
          have I:=l g;clear g;go_wp2_with(first|(go_at_call 251;refine(A7 _ _).mono ?_;rintro w ai ⟨rfl,rfl⟩)|(at_builtin;refine j8 _ rfl (.tmp 20) (.tmp 26) 165 rfl c.heap.size 9 ae (.string ⟨#[]⟩) 1 16 Tryz.underlying165 S aa ab ac rfl R _ _ _ rfl (h.alloc _) ⟨_,0,none⟩ 1 1 [.string n] rfl rfl ?c1 ?c2 ?c3 ?c4 ?c5 ?_));case c1=>
           exact m9
          case c2=>exact ps
          case c3=>exact gq
          case c4=>omega
          case c5=>simp;omega
          exact Ie
        . rw[Q,B rfl]at f;have q:Hid (e=p++u.tok (a.size- (b+1)) (a.data.toList.drop (b+1))):=by
           show e=_;rw[f.out,show a.size- (b+1)=a.size-b-1 by omega]
          clear f;go_wp2_with(go_at_call 251;refine(A7 _ _).mono ?_;rintro w ai ⟨rfl,rfl⟩);exact If
  . exact Ig
def EP (c:Nat)(a:K)(d:D)(f:d.cell? ⟨c,9,none⟩=some (.string a)):
 O 438 #[I c] (.bool (decide (0<a.size))) d:=by
 obtain⟨e,b⟩:=fH (decide (0< (a.size:Int)));have HR:Hid (decide (0<a.size)=e):=by show _=_;rw[<-b,dZ];simp
 go_enter func438,ntmps438;exact zB
def xW (c:Nat)(a:K)(d:D)(f:d.cell? ⟨c,10,none⟩=some (.string a)):
 O 439 #[I c] (.bool (decide (a.size<8))) d:=by
 obtain⟨e,b⟩:=fH (decide ((a.size:Int)<8));have HR:Hid (decide (a.size<8)=e):=ID;go_enter func439,ntmps439;exact zB
def eO (a:P):Nat:=if(decide (a.enable/4%2=1)&&a.lost)=true then 6 else if(decide (a.enable%2=1)&&decide (0<a.rx.size))=true then 4 else if(decide (a.enable/2%2=1)&&decide (a.Wc.size<8))=true then 2 else 1
def i9 (a:Nat):((a:Int)==1)=decide (a=1):=by rw[dZ];simp;omega
def EQ (c U:Nat)(b:P)(R:b.enable<8)(d:D)(w:Hid (ap d c U b)):
 O 402 #[I c] (j (eO b)) d:=by
 obtain⟨-,-,-,-,-,-,N,-,Q,n,m,-,-,-,-,-,-⟩:=w.out;have e:=l (EP c b.rx d n);have f:=l (xW c b.Wc d m);unfold eO;obtain⟨a,g⟩:=y (b.enable);obtain⟨S,k⟩:=y (b.lost);obtain⟨K,i⟩:=y (decide (0<b.rx.size));obtain⟨H,h⟩:=y (decide (b.Wc.size<8));rw[<-g]at N R;rw[<-k]at Q;rw[<-i]at e;rw[<-h]at f;rw[<-g,<-k,<-i,<-h];clear g k i h w n m;have d4:(a:Int).tdiv 4=((a/4:Nat):Int):=kg;have d2:(a:Int).tdiv 2=((a/2:Nat):Int):=kg;have z:=jY (a/4);have x:=jY (a/2);have T:=jY a;have C:=i9 (a/4%2);have B:=i9 (a/2%2);have A:=i9 (a%2);have M:a/4<=8:=J;have L:a/2<=8:=J;obtain⟨G,q⟩:=y (decide (a/4%2=1));obtain⟨F,p⟩:=y (decide (a/2%2=1));obtain⟨E,o⟩:=y (decide (a%2=1));rw[<-q]at C|-;rw[<-p]at B|-;rw[<-o]at A|-;clear q p o;obtain⟨Z,v⟩:=y (a/4%2);obtain⟨Y,u⟩:=y (a/2%2);obtain⟨X,t⟩:=y (a%2);rw[<-v]at z C;rw[<-u]at x B;rw[<-t]at T A;clear v u t;obtain⟨W,s⟩:=y (a/4);obtain⟨V,r⟩:=y (a/2);rw[<-s]at d4 z M;rw[<-r]at d2 x L;clear s r;cases G<;>cases S<;>cases E<;>cases K<;>cases F<;>cases H;all_goals
  go_enter func402,ntmps402;exact IJ
def hV (a:P):Nat:=(if decide (0<a.rx.size)=true then 1 else 0)+(if a.lost=true then 2 else 0)+(if decide (a.Wc.size<8)=true then 32 else 0)+(if decide (a.Wc.size=0)=true then 64 else 0)
def ae4 (b w:Nat)(a:P)(d:D)(c:Hid (ap d b w a)):
 O 417 #[I b] (j (hV a)) d:=by
 have u:=c.out.Xj;have o:=c.out.Xi;have n:=c.out.Xt;have e:=l (EP b a.rx d o);have f:=l (xW b a.Wc d n);unfold hV;have q:((a.Wc.size:Int)==0)=decide (a.Wc.size=0):=gX;have m:(a.Wc.size==0)=decide (a.Wc.size=0):=gX;obtain⟨v,k⟩:=y (a.lost);obtain⟨s,h⟩:=y (decide (0<a.rx.size));obtain⟨r,g⟩:=y (decide (a.Wc.size<8));obtain⟨t,i⟩:=y (decide (a.Wc.size=0));rw[<-k]at u;rw[<-h]at e;rw[<-g]at f;rw[<-i]at q m;rw[<-k,<-h,<-g,<-i];obtain⟨x,p⟩:=y (a.Wc);rw[<-p]at n q m;clear k h g i c o p;cases v<;>cases s<;>cases r<;>cases t;all_goals
  go_enter func417,ntmps417;exact IJ
def acD (b g:Nat)(a:P)(e:D)(f:Hid (ap e b g a)):
 O 369 #[I b] (.bool (decide (a.Wj=1))) e:=by
 have c1:=f.out.c1;have d:=i9 a.Wj;obtain⟨h,c⟩:=y (a.Wj);rw[<-c]at c1 d|-;clear c;go_enter func369,ntmps369;exact IK
def BP (a:D)(b:Nat):Below a.heap.size a (a.drewN b):=⟨rfl,rfl,rfl,aB _,fun _ _=>rfl⟩
def fP (a:P):Bool:=if decide (a.Wv<a.Wh)=true then true else if decide (a.Wh=a.Wv)=true then decide (a.cmp<=a.time)else false
def acE (m v:Nat)(a:P)(u:D)(b:Hid (ap u m v a)):
 aa 370 #[I m] (.bool (fP a)) u:=by
 have c2:=b.out.c2;have c3:=b.out.c3;have c4:=b.out.c4;have c5:=b.out.c5;unfold fP;have g:decide ((a.Wv:Int)< (a.Wh:Int))=decide (a.Wv<a.Wh):=gX;have h:((a.Wh:Int)==(a.Wv:Int))=decide (a.Wh=a.Wv):=ij;have i:decide ((a.cmp:Int)<=(a.time:Int))=decide (a.cmp<=a.time):=gX;obtain⟨k,e⟩:=y (decide (a.Wv<a.Wh));obtain⟨d,c⟩:=y (decide (a.Wh=a.Wv));obtain⟨l,f⟩:=y (decide (a.cmp<=a.time));rw[<-e]at g|-;rw[<-c]at h|-;rw[<-f]at i|-;have r:decide (a.Wv<a.Wh)=k:=e.symm;have s:(a.Wh==a.Wv)=d:=by rw[c,dZ];simp
 have t:decide (a.cmp<=a.time)=l:=f.symm;have j:decide (a.Wh=a.Wv)=d:=c.symm;clear e c f b;obtain⟨z,p⟩:=y (a.time);obtain⟨A,q⟩:=y (a.Wh);obtain⟨w,n⟩:=y (a.cmp);obtain⟨x,o⟩:=y (a.Wv);rw[<-p]at c2 i t;rw[<-q]at c3 g h r s j;rw[<-n]at c4 i t;rw[<-o]at c5 g h r s j;clear p q n o;cases k<;>cases d<;>cases l;all_goals
  go_enter func370,ntmps370;go_upto_region 1 with fail;go_quiet (fail);go_wp2_with fail;go_ret;exact⟨rfl,BP _ _⟩
def aco (b g:Nat)(a:P)(i:a.enable<8)(c:D)(j:Hid (ap c b g a)):
 O 371 #[I b] (.bool (!decide (eO a=1))) c:=by
 have e:=l (EQ b g a i c j);obtain⟨h,f⟩:=y (eO a);rw[<-f]at e|-;have d:((h:Int) !=1)=!decide (h=1):=ij;clear f;go_enter func371,ntmps371;go_wp2_with fail;refine e.out.mono ?_;rintro k m ⟨rfl,rfl⟩;exact IK
def dk (b e:Nat)(a:P)(d:D)(c:Hid (ap d b e a)):
 aa 321 #[I b] (.tuple #[j a.time,j a.Wh]) d:=by
 have c2:=c.out.c2;have c3:=c.out.c3;go_enter func321,ntmps321;go_upto_region 1 with fail;go_quiet (fail);go_wp2_with fail;go_ret2;exact⟨rfl,BP _ _⟩
def ac5 (b e:Nat)(a:P)(c:D)(d:Hid (ap c b e a)):
 O 249 #[I b] (j a.o.length) c:=by
 have f:=d.out.V8;go_enter func249,ntmps249;exact cn
def ap.Zb {f:D}{a b:Nat}{e:P}(c:ap f a b e)(g:Nat):ap (f.setCell ⟨a,1,none⟩ (j (g:Nat))) a b {e with Wj:=g}:=jE
def ap.YO {f:D}{a b:Nat}{e:P}(c:ap f a b e)(g:Nat):ap (f.setCell ⟨a,2,none⟩ (j (g:Nat))) a b {e with time:=g}:=jE
def ap.YP {f:D}{a b:Nat}{e:P}(c:ap f a b e)(g:Nat):ap (f.setCell ⟨a,3,none⟩ (j (g:Nat))) a b {e with Wh:=g}:=jE
def ap.Yz {f:D}{a b:Nat}{e:P}(c:ap f a b e)(g:Nat):ap (f.setCell ⟨a,4,none⟩ (j (g:Nat))) a b {e with cmp:=g}:=jE
def ap.Zc {f:D}{a b:Nat}{e:P}(c:ap f a b e)(g:Nat):ap (f.setCell ⟨a,5,none⟩ (j (g:Nat))) a b {e with Wv:=g}:=jE
def ap.Zd {f:D}{a b:Nat}{e:P}(c:ap f a b e)(g:Nat):ap (f.setCell ⟨a,6,none⟩ (j (g:Nat))) a b {e with enable:=g}:=jE
def ap.Ze {f:D}{a b:Nat}{e:P}(c:ap f a b e)(g:Nat):ap (f.setCell ⟨a,7,none⟩ (j (g:Nat))) a b {e with Wr:=g}:=jE
def ap.YQ {f:D}{a b:Nat}{e:P}(c:ap f a b e)(g:Bool):ap (f.setCell ⟨a,8,none⟩ (.bool g)) a b {e with lost:=g}:=jE
def ap.YR {f:D}{a b:Nat}{e:P}(c:ap f a b e)(g:K):ap (f.setCell ⟨a,9,none⟩ (.string g)) a b {e with rx:=g}:=jE
def ap.YS {f:D}{a b:Nat}{e:P}(c:ap f a b e)(g:K):ap (f.setCell ⟨a,10,none⟩ (.string g)) a b {e with Wc:=g}:=jE
def p6 {d:D}{b f:Nat}{c:Value}{a:List Nat}(e:b∈a):Kept a d (d.setCell ⟨b,f,none⟩ c):=(Kept.refl _ _).setCell (.inl e) c
def dx (a:P)(b:Int):Nat×P:=
 if b=33554432 then(a.Wj,a)else if b=33570816 then(a.cmp,a)else if b=33570820 then(a.Wv,a)else if b=33603576 then(a.time,a)else if b=33603580 then(a.Wh,a)
 else if b=268435456 then(if c:0<a.rx.size then(a.rx[0].toNat,{a with rx:=a.rx.extract 1 a.rx.size})else(0,a))
 else if b=268435457 then(a.enable,a)else if b=268435458 then(eO a,a)else if b=268435461 then(hV a,{a with lost:=false})else(a.Wr,a)
def ba (a:P)(b c:Int):Nat×P:=if a1 b c a.o.length=true then(cc a (b-2147483648).toNat c.toNat,a)else if bF b c a.o.length=true then dx a b else(0,a)
def xG {c b:Int}{e:Nat}(f:a1 c b e=false)(a:bF c b e=true):(eK c=true/\b=4)\/(ep c=true/\b=1):=by
 unfold bF at a;rw[f]at a;simp only[ei,cS]at a;split at a
 . next d=>left;exact⟨d,by simpa using a⟩
 . split at a
   . next d=>right;exact⟨d,by simpa using a⟩
   . cases a
theorem xQ (k p:Nat)(b:P)(u:aT b)(d c:Int)(M:-1099511627776<=d)(N:d<=1099511627776)(K:-1024<=c)(L:c<=1024)(h:D)(a:Hid (ap h k p b)):
 Calls prog 392 #[I k,j d,j c] h fun g w=>g=.returned (j (ba b d c).1)/\ap w k p (ba b d c).2/\Kept [k] h w:=by
 have G:=a.out.V8;cases hd:a1 d c b.o.length with
 |true=>
  have g:ba b d c=(cc b (d-2147483648).toNat c.toNat,b):=by unfold ba;rw[B hd]
  rw[g];unfold a1 at hd;simp only[cC]at hd;have S:c=(c.toNat:Int):=J;have H:=xR k p b u d (d-2147483648).toNat c.toNat m m m m h a;rw[<-S]at H;exact H.mono fun g w n=>⟨n.1,by rw[n.2];exact a.out,by rw[n.2];exact Kept.refl _ _⟩
 |false=>
  have n:=iM k p d c M N K L b.o.length u.o h G;have q:=tw k p d c M N K L b.o.length u.o h G;rw[hd]at n;cases o:bF d c b.o.length with
  |false=>
   have g:ba b d c=(0,b):=by unfold ba;rw[z (by rw[hd];decide),z (by rw[o];decide)]
   rw[g];rw[o]at q;have s:=l n;have t:=l q;clear n q hd o g;go_enter func392,ntmps392;go_wp2_with fail;refine s.out.mono ?_;rintro g r ⟨rfl,rfl⟩;go_wp2_with fail;refine t.out.mono ?_;rintro g r ⟨rfl,rfl⟩;go_wp2_with fail;go_ret;exact⟨rfl,a.out,Kept.refl _ _⟩
  |true=>
   have g:ba b d c=dx b d:=by unfold ba;rw[z (by rw[hd];decide),B o]
   rw[g];have i:=xG hd o;rw[o]at q;have s:=l n;have t:=l q;clear n q hd o g;unfold eK ep at i;simp only[cC]at i;by_cases W:d=33554432
   . subst W;have f:c=4:=J;subst f;clear i;have c1:=a.out.c1;have e:dx b 33554432=(b.Wj,b):=ki;exact nb
   by_cases X:d=33570816
   . subst X;have f:c=4:=J;subst f;clear i;have c4:=a.out.c4;have e:dx b 33570816=(b.cmp,b):=ki;exact nb
   by_cases Y:d=33570820
   . subst Y;have f:c=4:=J;subst f;clear i;have c5:=a.out.c5;have e:dx b 33570820=(b.Wv,b):=ki;exact nb
   by_cases Z:d=33603576
   . subst Z;have f:c=4:=J;subst f;clear i;have c2:=a.out.c2;have e:dx b 33603576=(b.time,b):=ki;exact nb
   by_cases aa:d=33603580
   . subst aa;have f:c=4:=J;subst f;clear i;have c3:=a.out.c3;have e:dx b 33603580=(b.Wh,b):=ki;exact nb
   by_cases ab:d=268435456
   . subst ab;have f:c=1:=J;subst f;clear i;have am:=a.out.Xi;by_cases O:0<b.rx.size
     . have e:dx b 268435456=(b.rx[0].toNat,{b with rx:=b.rx.extract 1 b.rx.size}):=by unfold dx;simp[O]
       rw[e];clear e;have A:=a.out.YR (b.rx.extract 1 b.rx.size);obtain⟨R,v⟩:=y (b.rx.extract 1 b.rx.size);rw[<-v]at A;simp only[<-v];have an:∀h,(Instr.slice 9 (.string b.rx) (some (.int .i64 1)) none none).run prog h=.ok (.string R) h:=by
        intro h;rw[v,ua h 9 b.rx .i64 1 h5,B ⟨by omega,by omega⟩];simp
       have E:=l A;have U:=gJ b.rx[0];obtain⟨ah,C⟩:=y (b.rx[0].toNat);simp only[<-C]at U|-;have ai:b.rx[0].toNat=ah:=C.symm;clear C;have ag:((b.rx.size:Int)==0)=false:=gV;have Q:(b.rx.size==0)=false:=gV;have T:=a.out.Wb;have V:=a.out.lt;clear v A;go_enter func392,ntmps392;go_wp2_with fail;refine s.out.mono ?_;rintro g r ⟨rfl,rfl⟩;go_wp2_with fail;refine t.out.mono ?_;exact IM
     . have e:dx b 268435456=(0,b):=by unfold dx;simp[O]
       rw[e];clear e;have ag:((b.rx.size:Int)==0)=true:=jz;have Q:(b.rx.size==0)=true:=jz;exact IN
   by_cases ac:d=268435457
   . subst ac;have f:c=1:=J;subst f;clear i;have aj:=a.out.W4;have e:dx b 268435457=(b.enable,b):=ki;exact nb
   by_cases ad:d=268435458
   . subst ad;have f:c=1:=J;subst f;clear i;have x:=l (EQ k p b u.enable h a);have e:dx b 268435458=(eO b,b):=ki;rw[e];clear e;go_enter func392,ntmps392;go_wp2_with fail;refine s.out.mono ?_;rintro g r ⟨rfl,rfl⟩;go_wp2_with fail;refine t.out.mono ?_;rintro g r ⟨rfl,rfl⟩;go_wp2_with fail;refine x.out.mono ?_;exact akd
   by_cases ae:d=268435461
   . subst ae;have f:c=1:=J;subst f;clear i;have x:=l (ae4 k p b h a);have e:dx b 268435461=(hV b,{b with lost:=false}):=ki;rw[e];clear e;have al:=a.out.Xj;have E:=l (a.out.YQ false);have T:=a.out.Wb;have V:=a.out.lt;go_enter func392,ntmps392;go_wp2_with fail;refine s.out.mono ?_;rintro g r ⟨rfl,rfl⟩;go_wp2_with fail;refine t.out.mono ?_;rintro g r ⟨rfl,rfl⟩;go_wp2_with fail;refine x.out.mono ?_;exact IM
   by_cases af:d=268435463
   . subst af;have f:c=1:=J;subst f;clear i;have ak:=a.out.W5;have e:dx b 268435463=(b.Wr,b):=ki;exact nb
   exfalso;omega
namespace u
def c7 (a:Nat):List L:=120::Lib.decDigits a
end u
def eb {a b c:K}(e:a++b=c)(f:a.size+b.size<=100000)(d:D):(Op.stringOp .add a b).run prog d=.ok (.string c) d:=IQ
def he (a b:List L):(⟨a.toArray⟩:K)++⟨b.toArray⟩=⟨(a++b).toArray⟩:=ByteArray.mk_append_mk a b
def CF :((List.range 100).all fun a=>decide ((Lib.decDigits a).length<=10))=true:=by decide+kernel
def nn (a:Nat)(h:a<100)(b:D):
 O 306 #[j a] (u.aG (u.c7 a)) b:=by
 have g:=cj.1 CF a (by simpa using h);rw[cC]at g;obtain⟨e,c⟩:=y (⟨(Lib.decDigits a).toArray⟩:K);obtain⟨f,d⟩:=y (⟨(u.c7 a).toArray⟩:K);have o:∀b,(Op.stringOp .add ⟨#[120]⟩ e).run prog b=.ok (.string f) b:=fun b=>eb (a:=⟨#[120]⟩) (b:=e) (c:=f) (by rw[c,d];exact he [120] _) (by rw[c];simp[ByteArray.size];omega) b;have k:=l d;have i:=l c;clear d c g;go_enter func306,ntmps306;go_wp2_with fail;refine(Tryz.strconv_Itoa_small a h _).mono ?_;rintro n m ⟨rfl,rfl⟩;rw[<-i.out];go_wp2;go_ret;exact⟨by unfold u.aG;rw[<-k.out];rfl,rfl⟩
def bc (e:D)(c d:Nat)(b:List (List L)):Prop:=∀a (f:a<b.length),e.cell? ⟨c,d+a,none⟩=some (u.aG b[a])
def bc.below {g c:D}{a b:Nat}{d:List (List L)}(h:bc g a b d){f:Nat}(i:Below f g c)(k:a<f):bc c a b d:=fun e j=>by
 rw[i.cell (p:=⟨a,b+e,none⟩) k];exact h e j
theorem bc.drop {f:D}{e c:Nat}{d:List (List L)}(h:bc f e c d)(a:Nat):bc f e (c+a) (d.drop a):=fun b i=>by
 have g:a+b<d.length:=by simp at i;omega
 have:=h (a+b) g
 rw[List.getElem_drop,show c+a+b=c+(a+b)by omega];exact this
def bc.Y0 {e:D}{f:Nat}{d:Value}{a:List (List L)}(h:e.ownsRow f 9 1 d a.length (a.map u.aG))(l:d≠ .slice none 0 0):
 ∃b c,d=.slice (some ⟨b,0,none⟩) a.length c/\f<=b/\b<e.heap.size/\bc e b 0 a:=by
 rcases h.2 with⟨m,_⟩|⟨g,c,o,rfl,i,j,p⟩
 . exact absurd m l
 . refine⟨g,c,rfl,i,(q4.1 j).1,fun n k=>?_⟩;rw[eh,h.cellAt n (by omega)];rw[qY,fa k];rfl
def np (c f h:Nat)(a:List (List L))(m:a.length<=5000)(b:Nat)(n:b<=10000)(g:D)(k:Hid (bc g c f a)):
 O 328 #[.slice (some ⟨c,f,none⟩) a.length h,j b] (u.aG (a[b]?.getD [])) g:=by
 by_cases d:b<a.length
 . have i:=k.out b d;rw[fa d,ub];obtain⟨l,e⟩:=y (u.aG a[b]);rw[<-e]at i|-;clear e;exact L9
 . rw[tZ (by omega)];exact L9
namespace u
def j0 (b:List L):Nat->Nat->Option Nat
 |0,_=>none
 |c+1,a=>if b=c7 a then some a else j0 b c (a+1)
def cr (a:List L):Option Nat:=j0 a 32 0
end u
def md (c a:K)(b:List L)(d:a=⟨b.toArray⟩):(c.toList==a.toList)=decide (c.data.toList=b):=by
 rw[mR,mR,d,dZ];simp
def nm (a:K)(v:D):
 O 403 #[.string a] (.tuple #[j ((u.cr a.data.toList).getD 0:Nat),.bool (u.cr a.data.toList).isSome]) v:=by
 obtain⟨n,p⟩:=y (u.cr a.data.toList);rw[<-p];have c:=l p;clear p;go_enter func403,ntmps403;go_wp2;go_loop [4] (fun o=>∃i:Nat,i<=32/\o=j i/\Hid (n=u.j0 a.data.toList (32-i) i)) (fun o=>32- (intOf o).toNat);case atStart=>exact vg
 case round=>
  obtain⟨i,x,rfl,b⟩:=hrel;by_cases w:i<32
  . obtain⟨q,h⟩:=y (⟨(u.c7 i).toArray⟩:K);have g:u.aG (u.c7 i)=.string q:=by rw[h];rfl
    have r:=md a q _ h;have f:n=if a.data.toList=u.c7 i then some i else u.j0 a.data.toList (32- (i+1)) (i+1):=by
     rw[b.out,show 32-i=(32- (i+1))+1 by omega];rfl
    by_cases d:a.data.toList=u.c7 i
    . rw[B d]at f;rw[bd d]at r;have e:=l f;have k:=l g;clear h g f d b c;go_wp2_with(go_at_call 306;refine(nn i m _).mono ?_;rintro t s ⟨rfl,rfl⟩;rw[k.out]);exact vD
    . rw[z d]at f;rw[aV d]at r;have e:=l f;have k:=l g;clear h g f d b c;go_wp2_with(go_at_call 306;refine(nn i m _).mono ?_;rintro t s ⟨rfl,rfl⟩;rw[k.out]);go_round;case rel=>exact⟨i+1,by omega,by go_num,e⟩
      case measure=>exact a5
  . obtain rfl:i=32:=by omega
    have p:Hid (n=none):=b;exact Ma
def nC (a:Nat)(b:a<=1099511627776):(Lib.decDigits a).length<=30:=by
 have:=Lib.itoa_length_le a m m;rw[Lib.itoa_nonneg]at this;omega
def PM (a:Int)(b:D):(convert 64 9 (.slice (some ⟨b.heap.size,0,none⟩) 1 1)).run prog (b.alloc (.cells #[.int .u8 a] 5))=.ok (.string (strOfNums [a])) (b.alloc (.cells #[.int .u8 a] 5)):=by
 refine tQ _ 64 5 gQ oz b.heap.size 0 1 1 [a] rfl (fun i c=>?_) 9 h5;obtain rfl:i=0:=by omega
 rw[cell_of_row _ _ _ #[.int .u8 a] 5 (0,0) (heap_alloc_new b _)];rfl
def aaY (a:Nat)(i:a<10)(e:D):
 aa 149 #[j a] (u.aG [UInt8.ofNat (48+a)]) e:=by
 have f:=PM (48+a) e;have d:u.aG [UInt8.ofNat (48+a)]=.string (strOfNums [48+(a:Int)]):=by
  unfold strOfNums u.aG;rw[show(48+(a:Int))=((48+a:Nat):Int)by omega];rfl
 rw[d];obtain⟨c,b⟩:∃c,c=strOfNums [48+(a:Int)]:=⟨_,rfl⟩;rw[<-b]at f|-;clear d b;have g:decide ((a:Int)<0)=false:=bN;have h:decide ((a:Int)<10)=true:=M;go_enter func149,ntmps149;go_upto_region 5 with fail;go_wp2;go_ret;exact Mb
theorem qH :∀(a:Nat),a<=1099511627776->∀c:D,
 aa 149 #[j a] (u.aG (Lib.decDigits a)) c:=by
 intro a;induction a using Nat.strongRecOn with
 |ind a p=>
  intro w c;by_cases k:a<10
  . rw[Lib.decDigits_one k];exact aaY a k c
  . obtain⟨f,d⟩:=y (⟨(Lib.decDigits (a/10)).toArray⟩:K);obtain⟨g,e⟩:=y (⟨(Lib.decDigits (a%10)).toArray⟩:K);obtain⟨h,o⟩:=y (⟨(Lib.decDigits a).toArray⟩:K);have v:∀c,(Op.stringOp .add f g).run prog c=.ok (.string h) c:=fun c=>eb (a:=f) (b:=g) (c:=h) (by
     rw[d,e,o,he];congr 2;rw[Lib.decDigits_one (show a%10<10 by omega),Lib.decDigits.eq_def a,dif_neg k]) (by rw[d,e];have:=nC (a/10) m;have:=nC (a%10) m;simp[ByteArray.size];omega) c
    have i:=p (a/10) m m;have n:=p (a%10) m m;rw[show u.aG (Lib.decDigits (a/10))=.string f by rw[d];rfl]at i;rw[show u.aG (Lib.decDigits (a%10))=.string g by rw[e];rfl]at n;rw[show u.aG (Lib.decDigits a)=.string h by rw[o];rfl];have q:=l i;have r:=l n;clear i n d e o p;go_enter func149,ntmps149;go_wp2_with fail;rw[show(a:Int)/10=((a/10:Nat):Int)by omega];refine(q.out _).mono ?_;rintro t x ⟨rfl,b⟩;clear q;go_wp2_with fail;rw[show(a:Int)%10=((a%10:Nat):Int)by omega];refine(r.out _).mono ?_;rintro t z ⟨rfl,s⟩;clear r;go_wp2;exact akn
def ts (b:Int)(k:-1099511627776<=b)(n:b<=1099511627776)(c:D):
 aa 149 #[j b] (u.aG (Lib.itoa b)) c:=by
 by_cases q:b<0
 . obtain⟨a,p⟩:∃a:Nat,b=-(a:Int):=⟨b.natAbs,by omega⟩;subst p;obtain⟨e,d⟩:=y (⟨(Lib.decDigits a).toArray⟩:K);obtain⟨f,h⟩:=y (⟨(Lib.itoa (-(a:Int))).toArray⟩:K);have s:∀c,(Op.stringOp .add ⟨#[45]⟩ e).run prog c=.ok (.string f) c:=fun c=>eb (a:=⟨#[45]⟩) (b:=e) (c:=f) (by
    rw[d,h,Lib.itoa_neg a (by omega)];exact he [45] _) (by rw[d];have:=nC a m;simp[ByteArray.size];omega) c
   have g:=qH a m;rw[show u.aG (Lib.decDigits a)=.string e by rw[d];rfl]at g;rw[show u.aG (Lib.itoa (-(a:Int)))=.string f by rw[h];rfl];have i:=l g;clear g d h;have t:1<=a:=J;have v:a<=1099511627776:=J;clear q k n;go_enter func149,ntmps149;go_wp2_with fail;refine(i.out _).mono ?_;rintro r w ⟨rfl,o⟩;clear i;go_wp2;go_ret;exact⟨rfl,o⟩
 . obtain⟨a,rfl⟩:∃a:Nat,b=(a:Int):=⟨b.toNat,by omega⟩;rw[Lib.itoa_nonneg];exact qH a m c
def xL (a:K)(b:D):
 aa 358 #[.string a] (.tuple #[j ((u.cr a.data.toList).getD 0:Nat),.bool (u.cr a.data.toList).isSome]) b:=by
 obtain⟨t,f⟩:=y (u.cr a.data.toList);rw[<-f];have n:=l f;clear f;go_enter func358,ntmps358;go_wp2;go_loopw [4] (fun w wr=>∃i:Nat,i<=32/\w=j i/\Below b.heap.size b wr/\Hid (t=u.j0 a.data.toList (32-i) i)) (fun w _=>32- (intOf w).toNat);case atStart=>exact⟨0,by omega,rfl,aq _ _,n⟩
 case round=>
  obtain⟨i,G,rfl,g,h⟩:=hrel;by_cases F:i<32
  . obtain⟨q,e⟩:=y (⟨(Lib.decDigits i).toArray⟩:K);obtain⟨v,o⟩:=y (⟨(u.c7 i).toArray⟩:K);have E:∀b,(Op.stringOp .add ⟨#[120]⟩ q).run prog b=.ok (.string v) b:=fun b=>eb (a:=⟨#[120]⟩) (b:=q) (c:=v) (by
     rw[e,o];exact he [120] _) (by rw[e];have:=nC i m;simp[ByteArray.size];omega) b
    have k:u.aG (Lib.decDigits i)=.string q:=by rw[e];rfl
    have x:=md a v _ o;have d:t=if a.data.toList=u.c7 i then some i else u.j0 a.data.toList (32- (i+1)) (i+1):=by
     rw[h.out,show 32-i=(32- (i+1))+1 by omega];rfl
    by_cases c:a.data.toList=u.c7 i
    . rw[B c]at d;rw[bd c]at x;have r:=l d;have s:=l k;clear o k d c h n e;go_wp2_with(go_at_call 149;refine(qH i m _).mono ?_;rintro C A ⟨rfl,p⟩;rw[s.out]);go_ret2;exact⟨by rw[r.out];rfl,g.trans (p.mono g.size)⟩
    . rw[z c]at d;rw[aV c]at x;have r:=l d;have s:=l k;clear o k d c h n e;go_wp2_with(go_at_call 149;refine(qH i m _).mono ?_;rintro C A ⟨rfl,p⟩;rw[s.out]);go_roundw;case rel=>exact⟨i+1,by omega,by go_num,g.trans (p.mono g.size),r⟩
      case measure=>exact a5
  . obtain rfl:i=32:=by omega
    have f:Hid (t=none):=h;clear h n;go_wp2;go_ret2;exact⟨by rw[f.out];rfl,g⟩
end Go.Proofs.YtmlgonbhoknoiaaGreatDoor
