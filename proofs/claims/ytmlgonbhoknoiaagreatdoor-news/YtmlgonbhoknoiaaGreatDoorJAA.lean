import Derived.Test.YtmlgonbhoknoiaaGreatDoorJQ
set_option maxHeartbeats 8000000
set_option maxRecDepth 100000
set_option linter.all false
namespace Go.Proofs.YtmlgonbhoknoiaaGreatDoor
open Go.RowKit Go.Proofs.Tryz
namespace u
def bn (a:L):Bool:=decide (48<=a.toNat)&&decide (a.toNat<=57)
def cH (a:L):Bool:=(decide (97<=a.toNat)&&decide (a.toNat<=122)) ||(decide (65<=a.toNat)&&decide (a.toNat<=90)) ||decide (a.toNat=95) ||decide (a.toNat=46)
def cl (a:L):Bool:=cH a ||bn a
def dh (a:L):Bool:=cl a ||decide (a.toNat=45)
def blank (a:L):Bool:=decide (a.toNat=32) ||decide (a.toNat=9)
def cq (a:L):Nat:=if 48<=a.toNat/\a.toNat<=57 then a.toNat-48 else if 97<=a.toNat/\a.toNat<=102 then a.toNat-87 else if 65<=a.toNat/\a.toNat<=70 then a.toNat-55 else 16
end u
def gJ (a:L):a.toNat<=255:=by have:=a.toNat_lt;omega
def sf (a:L)(f:D):
 O 327 #[.int .u8 (a.toNat:Int)] (.bool (u.bn a)) f:=by
 have g:=gJ a;by_cases c:a.toNat<=47
 . have d:0<=a.toNat:=J;have b:u.bn a=false:=bR;rw[b];skip;exact zr
 by_cases e:a.toNat<=57
 . have d:48<=a.toNat:=J;have b:u.bn a=true:=bR;rw[b];clear c;exact zr
 have d:58<=a.toNat:=J;have b:u.bn a=false:=bR;rw[b];clear c e;exact zr
def A7 (a:L)(h:D):
 O 251 #[.int .u8 (a.toNat:Int)] (.bool (u.blank a)) h:=by
 have i:=gJ a;by_cases c:a.toNat<=8
 . have d:0<=a.toNat:=J;have b:u.blank a=false:=ry;rw[b];skip;exact rT
 by_cases e:a.toNat<=9
 . have d:9<=a.toNat:=J;have b:u.blank a=true:=ry;rw[b];clear c;exact rT
 by_cases f:a.toNat<=31
 . have d:10<=a.toNat:=J;have b:u.blank a=false:=ry;rw[b];clear c e;exact rT
 by_cases g:a.toNat<=32
 . have d:32<=a.toNat:=J;have b:u.blank a=true:=ry;rw[b];clear c e f;exact rT
 have d:33<=a.toNat:=J;have b:u.blank a=false:=ry;rw[b];clear c e f g;exact rT
def sg (a:L)(o:D):
 O 326 #[.int .u8 (a.toNat:Int)] (.bool (u.cl a)) o:=by
 have p:=gJ a;by_cases c:a.toNat<=45
 . have d:0<=a.toNat:=J;have e:u.bn a=false:=bR;have b:u.cl a=false:=iV;rw[b];skip;exact iY
 by_cases f:a.toNat<=46
 . have d:46<=a.toNat:=J;have e:u.bn a=false:=bR;have b:u.cl a=true:=iV;rw[b];clear c;exact iY
 by_cases g:a.toNat<=47
 . have d:47<=a.toNat:=J;have e:u.bn a=false:=bR;have b:u.cl a=false:=iV;rw[b];clear c f;exact iY
 by_cases h:a.toNat<=57
 . have d:48<=a.toNat:=J;have e:u.bn a=true:=bR;have b:u.cl a=true:=iV;rw[b];clear c f g;exact iY
 by_cases i:a.toNat<=64
 . have d:58<=a.toNat:=J;have e:u.bn a=false:=bR;have b:u.cl a=false:=iV;rw[b];clear c f g h;exact iY
 by_cases j:a.toNat<=90
 . have d:65<=a.toNat:=J;have e:u.bn a=false:=bR;have b:u.cl a=true:=iV;rw[b];clear c f g h i;exact iY
 by_cases k:a.toNat<=94
 . have d:91<=a.toNat:=J;have e:u.bn a=false:=bR;have b:u.cl a=false:=iV;rw[b];clear c f g h i j;exact iY
 by_cases l:a.toNat<=95
 . have d:95<=a.toNat:=J;have e:u.bn a=false:=bR;have b:u.cl a=true:=iV;rw[b];clear c f g h i j k;exact iY
 by_cases m:a.toNat<=96
 . have d:96<=a.toNat:=J;have e:u.bn a=false:=bR;have b:u.cl a=false:=iV;rw[b];clear c f g h i j k l;exact iY
 by_cases n:a.toNat<=122
 . have d:97<=a.toNat:=J;have e:u.bn a=false:=bR;have b:u.cl a=true:=iV;rw[b];clear c f g h i j k l m;exact iY
 have d:123<=a.toNat:=J;have e:u.bn a=false:=bR;have b:u.cl a=false:=iV;rw[b];clear c f g h i j k l m n;exact iY
def Eu (a:L)(f:D):
 O 357 #[.int .u8 (a.toNat:Int)] (.bool (u.bn a)) f:=by
 have g:=gJ a;by_cases c:a.toNat<=47
 . have d:0<=a.toNat:=J;have b:u.bn a=false:=bR;rw[b];skip;exact zs
 by_cases e:a.toNat<=57
 . have d:48<=a.toNat:=J;have b:u.bn a=true:=bR;rw[b];clear c;exact zs
 have d:58<=a.toNat:=J;have b:u.bn a=false:=bR;rw[b];clear c e;exact zs
def xK (a:L)(l:D):
 O 309 #[.int .u8 (a.toNat:Int)] (.bool (u.cH a)) l:=by
 have m:=gJ a;by_cases c:a.toNat<=45
 . have d:0<=a.toNat:=J;have b:u.cH a=false:=ew;rw[b];skip;exact kh
 by_cases e:a.toNat<=46
 . have d:46<=a.toNat:=J;have b:u.cH a=true:=ew;rw[b];clear c;exact kh
 by_cases f:a.toNat<=64
 . have d:47<=a.toNat:=J;have b:u.cH a=false:=ew;rw[b];clear c e;exact kh
 by_cases g:a.toNat<=90
 . have d:65<=a.toNat:=J;have b:u.cH a=true:=ew;rw[b];clear c e f;exact kh
 by_cases h:a.toNat<=94
 . have d:91<=a.toNat:=J;have b:u.cH a=false:=ew;rw[b];clear c e f g;exact kh
 by_cases i:a.toNat<=95
 . have d:95<=a.toNat:=J;have b:u.cH a=true:=ew;rw[b];clear c e f g h;exact kh
 by_cases j:a.toNat<=96
 . have d:96<=a.toNat:=J;have b:u.cH a=false:=ew;rw[b];clear c e f g h i;exact kh
 by_cases k:a.toNat<=122
 . have d:97<=a.toNat:=J;have b:u.cH a=true:=ew;rw[b];clear c e f g h i j;exact kh
 have d:123<=a.toNat:=J;have b:u.cH a=false:=ew;rw[b];clear c e f g h i j k;exact kh
def tt (a:L)(q:D):
 O 308 #[.int .u8 (a.toNat:Int)] (.bool (u.dh a)) q:=by
 have v:=gJ a;by_cases c:a.toNat<=44
 . have d:0<=a.toNat:=J;have f:u.cH a=false:=ew;have e:u.bn a=false:=bR;have b:u.dh a=false:=il;rw[b];skip;exact ii
 by_cases g:a.toNat<=45
 . have d:45<=a.toNat:=J;have f:u.cH a=false:=ew;have e:u.bn a=false:=bR;have b:u.dh a=true:=il;rw[b];clear c;exact ii
 by_cases h:a.toNat<=46
 . have d:46<=a.toNat:=J;have f:u.cH a=true:=ew;have e:u.bn a=false:=bR;have b:u.dh a=true:=il;rw[b];clear c g;exact ii
 by_cases i:a.toNat<=47
 . have d:47<=a.toNat:=J;have f:u.cH a=false:=ew;have e:u.bn a=false:=bR;have b:u.dh a=false:=il;rw[b];clear c g h;exact ii
 by_cases j:a.toNat<=57
 . have d:48<=a.toNat:=J;have f:u.cH a=false:=ew;have e:u.bn a=true:=bR;have b:u.dh a=true:=il;rw[b];clear c g h i;exact ii
 by_cases k:a.toNat<=64
 . have d:58<=a.toNat:=J;have f:u.cH a=false:=ew;have e:u.bn a=false:=bR;have b:u.dh a=false:=il;rw[b];clear c g h i j;exact ii
 by_cases l:a.toNat<=90
 . have d:65<=a.toNat:=J;have f:u.cH a=true:=ew;have e:u.bn a=false:=bR;have b:u.dh a=true:=il;rw[b];clear c g h i j k;exact ii
 by_cases m:a.toNat<=94
 . have d:91<=a.toNat:=J;have f:u.cH a=false:=ew;have e:u.bn a=false:=bR;have b:u.dh a=false:=il;rw[b];clear c g h i j k l;exact ii
 by_cases n:a.toNat<=95
 . have d:95<=a.toNat:=J;have f:u.cH a=true:=ew;have e:u.bn a=false:=bR;have b:u.dh a=true:=il;rw[b];clear c g h i j k l m;exact ii
 by_cases o:a.toNat<=96
 . have d:96<=a.toNat:=J;have f:u.cH a=false:=ew;have e:u.bn a=false:=bR;have b:u.dh a=false:=il;rw[b];clear c g h i j k l m n;exact ii
 by_cases p:a.toNat<=122
 . have d:97<=a.toNat:=J;have f:u.cH a=true:=ew;have e:u.bn a=false:=bR;have b:u.dh a=true:=il;rw[b];clear c g h i j k l m n o;exact ii
 have d:123<=a.toNat:=J;have f:u.cH a=false:=ew;have e:u.bn a=false:=bR;have b:u.dh a=false:=il;rw[b];clear c g h i j k l m n o p;exact ii
def l {p:Prop}(a:p):Hid p:=a
def A5 (a:L)(l:D):
 O 448 #[.int .u8 (a.toNat:Int)] (j ((u.cq a:Nat))) l:=by
 have n:=gJ a;by_cases c:a.toNat<=47
 . have d:0<=a.toNat:=J;have b:u.cq a=16:=lU;have e:u.bn a=false:=bR;rw[b];skip;exact m6
 by_cases f:a.toNat<=57
 . have d:48<=a.toNat:=J;have b:u.cq a=a.toNat-48:=K6;have e:u.bn a=true:=bR;rw[b];clear c;exact m6
 by_cases g:a.toNat<=64
 . have d:58<=a.toNat:=J;have b:u.cq a=16:=lU;have e:u.bn a=false:=bR;rw[b];clear c f;exact m6
 by_cases h:a.toNat<=70
 . have d:65<=a.toNat:=J;have b:u.cq a=a.toNat-55:=Mq;have e:u.bn a=false:=bR;rw[b];clear c f g;exact m6
 by_cases i:a.toNat<=96
 . have d:71<=a.toNat:=J;have b:u.cq a=16:=lU;have e:u.bn a=false:=bR;rw[b];clear c f g h;exact m6
 by_cases k:a.toNat<=102
 . have d:97<=a.toNat:=J;have b:u.cq a=a.toNat-87:=Nr;have e:u.bn a=false:=bR;rw[b];clear c f g h i;exact m6
 have d:103<=a.toNat:=J;have b:u.cq a=16:=lU;have e:u.bn a=false:=bR;rw[b];clear c f g h i k;exact m6
def Ev (a:L)(l:D):
 O 411 #[.int .u8 (a.toNat:Int)] (j (if u.cq a=16 then -1 else(u.cq a:Int))) l:=by
 have n:=gJ a;by_cases c:a.toNat<=47
 . have d:0<=a.toNat:=J;have b:u.cq a=16:=lU;have e:u.bn a=false:=bR;rw[b];rw[B rfl];skip;exact m7
 by_cases f:a.toNat<=57
 . have d:48<=a.toNat:=J;have b:u.cq a=a.toNat-48:=K6;have e:u.bn a=true:=bR;rw[b];rw[z (by omega)];clear c;exact m7
 by_cases g:a.toNat<=64
 . have d:58<=a.toNat:=J;have b:u.cq a=16:=lU;have e:u.bn a=false:=bR;rw[b];rw[B rfl];clear c f;exact m7
 by_cases h:a.toNat<=70
 . have d:65<=a.toNat:=J;have b:u.cq a=a.toNat-55:=Mq;have e:u.bn a=false:=bR;rw[b];rw[z (by omega)];clear c f g;exact m7
 by_cases i:a.toNat<=96
 . have d:71<=a.toNat:=J;have b:u.cq a=16:=lU;have e:u.bn a=false:=bR;rw[b];rw[B rfl];clear c f g h;exact m7
 by_cases k:a.toNat<=102
 . have d:97<=a.toNat:=J;have b:u.cq a=a.toNat-87:=Nr;have e:u.bn a=false:=bR;rw[b];rw[z (by omega)];clear c f g h i;exact m7
 have d:103<=a.toNat:=J;have b:u.cq a=16:=lU;have e:u.bn a=false:=bR;rw[b];rw[B rfl];clear c f g h i k;exact m7
namespace u
def df (b:Nat):Nat->List L->Option Nat
 |a,[]=>some a
 |a,c::d=>if b<=cq c then none else df b (a*b+cq c) d
def dw (b eX:Nat)(a:List L):Option Nat:=if a.length<1\/eX<a.length then none else df b 0 a
end u
def eF (a:K)(i:Nat)(b:i<a.size):a.data.toList.drop i=a[i]::a.data.toList.drop (i+1):=HQ
def BI {b d:Nat}{a:K}{i:Nat}{c:Option Nat}(f:i<a.size)(g:u.cq a[i]<b)(e:Hid (u.df b d (a.data.toList.drop i)=c)):Hid (u.df b (d*b+u.cq a[i]) (a.data.toList.drop (i+1))=c):=by
 have:=e.out;rw[eF a i f]at this;simp only[u.df,z (show ¬b<=u.cq a[i]by omega)]at this;exact this
def wk {c d:Nat}{a:K}{i:Nat}{b:Option Nat}(g:i<a.size)(e:c<=u.cq a[i])(f:Hid (u.df c d (a.data.toList.drop i)=b)):b=none:=by
 have:=f.out;rw[eF a i g]at this;simp only[u.df,B e]at this;exact this.symm
def Ot (a:K)(G:a.size<=5000)(r:D):
 Calls prog 440 #[.string a,j 10,j 10] r fun p o=>(∃k:Option Nat,Hid (u.dw 10 10 a.data.toList=k)/\k.getD 0<=10000000000/\p=.returned (.tuple #[j (k.getD 0:Nat),.bool k.isSome]))/\o=r:=by
 have x:a.data.toList.length=a.size:=bN;by_cases c1:a.size<1
 . exact ve
 by_cases c2:10<a.size
 . exact ve
 have q:u.dw 10 10 a.data.toList=u.df 10 0 (a.data.toList.drop 0):=Gi;rw[q];obtain⟨d,n⟩:=y (u.df 10 0 (a.data.toList.drop 0));rw[<-n];have v:Hid (u.df 10 0 (a.data.toList.drop 0)=d):=n.symm;clear n q x;go_enter func440,ntmps440;go_wp2;go_loop [8,9] (fun w e=>∃i b:Nat,i<=a.size/\w=j b/\e=j i/\Hid (b+1<=10^i)/\Hid (u.df 10 b (a.data.toList.drop i)=d)) (fun _ e=>a.size- (intOf e).toNat);case atStart=>exact HU
 case round=>
  obtain⟨i,b,E,rfl,rfl,f,c⟩:=hrel;have t:b<=10000000000:=by
   have A:=f.out;have C:10^i<=10^10:=ke;omega
  by_cases h:i<a.size
  . go_wp2_with fail;refine(A5 a[i] _).mono ?_;rintro p o ⟨rfl,rfl⟩;obtain⟨e,hd⟩:=y (u.cq a[i]);rw[<-hd];have g:=l hd;clear hd;by_cases s:10<=e
    . exact HS
    . exact FI
  . exact HT
def Ou (a:K)(G:a.size<=5000)(r:D):
 Calls prog 440 #[.string a,j 16,j 8] r fun p n=>(∃f:Option Nat,Hid (u.dw 16 8 a.data.toList=f)/\f.getD 0<=4294967296/\p=.returned (.tuple #[j (f.getD 0:Nat),.bool f.isSome]))/\n=r:=by
 have w:a.data.toList.length=a.size:=bN;by_cases c1:a.size<1
 . exact ve
 by_cases c2:8<a.size
 . exact ve
 have q:u.dw 16 8 a.data.toList=u.df 16 0 (a.data.toList.drop 0):=Gi;rw[q];obtain⟨d,k⟩:=y (u.df 16 0 (a.data.toList.drop 0));rw[<-k];have A:Hid (u.df 16 0 (a.data.toList.drop 0)=d):=k.symm;clear k q w;go_enter func440,ntmps440;go_wp2;go_loop [8,9] (fun v e=>∃i b:Nat,i<=a.size/\v=j b/\e=j i/\Hid (b+1<=16^i)/\Hid (u.df 16 b (a.data.toList.drop i)=d)) (fun _ e=>a.size- (intOf e).toNat);case atStart=>exact HW
 case round=>
  obtain⟨i,b,E,rfl,rfl,o,c⟩:=hrel;have t:b<=4294967296:=by
   have x:=o.out;have C:16^i<=16^8:=ke;omega
  by_cases h:i<a.size
  . go_wp2_with fail;refine(A5 a[i] _).mono ?_;rintro p n ⟨rfl,rfl⟩;obtain⟨e,hd⟩:=y (u.cq a[i]);rw[<-hd];have g:=l hd;clear hd;by_cases s:16<=e
    . exact HS
    . exact HV
  . exact HT
structure Kept (c:List Nat)(w a:D):Prop where
 os:a.os=w.os
 tape:a.tape=w.tape
 output:a.output=w.output
 size:w.heap.size<=a.heap.size
 block:∀b,b<w.heap.size->b∉c->a.heap[b]?=w.heap[b]?
abbrev aE (e:Nat)(c:Array Value)(r:Value)(a:D):Prop:=Calls prog e c a fun d b=>d=.returned r/\Kept [] a b
def Kept.refl (b:List Nat)(a:D):Kept b a a:=⟨rfl,rfl,rfl,aB _,fun _ _ _=>rfl⟩
theorem Kept.trans {c:List Nat}{d e f:D}(a:Kept c d e)(b:Kept c e f):Kept c d f:=
 ⟨b.os.trans a.os,b.tape.trans a.tape,b.output.trans a.output,fE a.size b.size,fun i g h=>(b.block i (aR g a.size) h).trans (a.block i g h)⟩
def Kept.mono {F b:List Nat}{c d:D}(a:Kept F c d)(h:∀j∈F,j∈b):Kept b c d:=⟨a.os,a.tape,a.output,a.size,fun i f g=>a.block i f (fun e=>g (h i e))⟩
theorem Kept.alloc {c:List Nat}{d b:D}(a:Kept c d b)(f:Obj):Kept c d (b.alloc f):=
 ⟨a.os,a.tape,a.output,fE a.size (by simp),fun i e g=>(Below.heap_alloc b f i (aR e a.size)).trans (a.block i e g)⟩
theorem Kept.setCell {d:List Nat}{e c:D}(a:Kept d e c){p:Addr}(b:p.block∈d\/e.heap.size<=p.block)(f:Value):Kept d e (c.setCell p f):=by
 refine⟨a.os,a.tape,a.output,fE a.size ?_,fun i j g=>(Below.heap_setCell c p f i ?_).trans (a.block i j g)⟩
 . exact((aq 0 c).setCell (Nat.zero_le _) f).size
 . intro h;subst h;rcases b with b|b
   . exact g b
   . omega
theorem Kept.drew {F:List Nat}{b c:D}(a:Kept F b c):Kept F b c.drew:=⟨a.os,a.tape,a.output,a.size,a.block⟩
def Below.kept {b c:D}(a:Below b.heap.size b c)(d:List Nat):Kept d b c:=⟨a.os,a.tape,a.output,a.size,fun f e _=>a.block f e⟩
theorem Kept.cell {b:List Nat}{w a:D}(c:Kept b w a){p:Addr}(e:p.block<w.heap.size)(d:p.block∉b):a.cell? p=w.cell? p:=World.cell?_of_block (w:=w) (c.block p.block e d)
theorem Kept.frozen {b:List Nat}{w a:D}(c:Kept b w a){p:Addr}(e:p.block<w.heap.size)(d:p.block∉b):a.frozen? p=w.frozen? p:=World.frozen?_of_block (w:=w) (c.block p.block e d)
structure P where
 o:List L
 Wj:Nat
 time:Nat
 Wh:Nat
 cmp:Nat
 Wv:Nat
 enable:Nat
 Wr:Nat
 lost:Bool
 rx:K
 Wc:K
structure aT (a:P):Prop where
 o:a.o.length<=65536
 Wj:a.Wj<2
 time:a.time<4294967296
 Wh:a.Wh<4294967296
 cmp:a.cmp<4294967296
 Wv:a.Wv<4294967296
 enable:a.enable<8
 Wr:a.Wr<256
 rx:a.rx.size<=4
 Wc:a.Wc.size<=8
structure ap (a:D)(c d:Nat)(b:P):Prop where
 V8:a.cell? ⟨c,0,none⟩=some (.slice (some ⟨d,0,none⟩) b.o.length b.o.length)
 c1:a.cell? ⟨c,1,none⟩=some (j b.Wj)
 c2:a.cell? ⟨c,2,none⟩=some (j b.time)
 c3:a.cell? ⟨c,3,none⟩=some (j b.Wh)
 c4:a.cell? ⟨c,4,none⟩=some (j b.cmp)
 c5:a.cell? ⟨c,5,none⟩=some (j b.Wv)
 W4:a.cell? ⟨c,6,none⟩=some (j b.enable)
 W5:a.cell? ⟨c,7,none⟩=some (j b.Wr)
 Xj:a.cell? ⟨c,8,none⟩=some (.bool b.lost)
 Xi:a.cell? ⟨c,9,none⟩=some (.string b.rx)
 Xt:a.cell? ⟨c,10,none⟩=some (.string b.Wc)
 Wb:∀f,a.frozen? ⟨c,f,none⟩=false
 lt:c<a.heap.size
 o:∀e (g:e<b.o.length),a.cell? ⟨d,e,none⟩=some (.int .u8 (b.o[e].toNat:Int))
 XA:∀f,a.frozen? ⟨d,f,none⟩=false
 Ww:d<a.heap.size
 ne:c≠d
def ap.more {j w':D}{c f:Nat}{g:P}{F:List Nat}(a:ap j c f g)(b:Kept F j w')(d:c∉F)(h:f∉F):ap w' c f g:=
 ⟨(b.cell (p:=⟨c,0,none⟩) a.lt d).trans a.V8,(b.cell (p:=⟨c,1,none⟩) a.lt d).trans a.c1,(b.cell (p:=⟨c,2,none⟩) a.lt d).trans a.c2,(b.cell (p:=⟨c,3,none⟩) a.lt d).trans a.c3,(b.cell (p:=⟨c,4,none⟩) a.lt d).trans a.c4,(b.cell (p:=⟨c,5,none⟩) a.lt d).trans a.c5,(b.cell (p:=⟨c,6,none⟩) a.lt d).trans a.W4,(b.cell (p:=⟨c,7,none⟩) a.lt d).trans a.W5,(b.cell (p:=⟨c,8,none⟩) a.lt d).trans a.Xj,(b.cell (p:=⟨c,9,none⟩) a.lt d).trans a.Xi,(b.cell (p:=⟨c,10,none⟩) a.lt d).trans a.Xt,fun e=>(b.frozen (p:=⟨c,e,none⟩) a.lt d).trans (a.Wb e),aR a.lt b.size,fun i k=>(b.cell (p:=⟨f,i,none⟩) a.Ww h).trans (a.o i k),fun e=>(b.frozen (p:=⟨f,e,none⟩) a.Ww h).trans (a.XA e),aR a.Ww b.size,a.ne⟩
def a1 (b a:Int)(c:Nat):Bool:=decide (1<=a/\a<=4/\2147483648<=b/\b<=2147483648+c-a)
def iM (k q:Nat)(b a:Int)(v:-1099511627776<=b)(w:b<=1099511627776)(t:-1024<=a)(u:a<=1024)(i:Nat)(s:i<=65536)(l:D)(r:l.cell? ⟨k,0,none⟩=some (.slice (some ⟨q,0,none⟩) i i)):
 O 391 #[I k,j b,j a] (.bool (a1 b a i)) l:=by
 obtain⟨h,g⟩:=y (a1 b a i);rw[<-g];unfold a1 at g;by_cases d:1<=a
 . have m:decide (1<=a)=true:=iZ;by_cases c:a<=4
   . have n:decide (a<=4)=true:=eT;by_cases f:2147483648<=b
     . have o:decide (2147483648<=b)=true:=lS;have p:decide (b<=2147483648+(i:Int)-a)=h:=by rw[g];simp[d,c,f]
       clear g;go_enter func391,ntmps391;go_wp2_with fail;go_ret;exact⟨by first|rfl|(rw[<-p];rfl),rfl⟩
     . have o:decide (2147483648<=b)=false:=M;have e:Hid (h=false):=by show h=false;rw[g];simp[f]
       exact zA
   . have n:decide (a<=4)=false:=M;have e:Hid (h=false):=by show h=false;rw[g];simp[c]
     exact zA
 . have m:decide (1<=a)=false:=M;have e:Hid (h=false):=by show h=false;rw[g];simp[d]
   exact zA
def eK (a:Int):Bool:=decide (a=33554432\/a=33570816\/a=33570820\/a=33603576\/a=33603580)
def ep (a:Int):Bool:=decide (a=268435456\/a=268435457\/a=268435458\/a=268435461\/a=268435463)
def bF (b a:Int)(c:Nat):Bool:=if a1 b a c=true then true else if eK b=true then decide (a=4)else if ep b=true then decide (a=1)else false
theorem tw (t w:Nat)(a b:Int)(E:-1099511627776<=a)(F:a<=1099511627776)(A:-1024<=b)(C:b<=1024)(c:Nat)(z:c<=65536)(u:D)(x:u.cell? ⟨t,0,none⟩=some (.slice (some ⟨w,0,none⟩) c c)):
 O 416 #[I t,j a,j b] (.bool (bF a b c)) u:=by
 have v:=iM t w a b E F A C c z u x;have s:=l v;clear v;cases hd:a1 a b c with
 |true=>
  rw[hd]at s;have e:Hid (bF a b c=true):=by show _=_;unfold bF;rw[B hd]
  clear hd;go_enter func416,ntmps416;go_wp2_with fail;refine s.out.mono ?_;rintro y G ⟨rfl,rfl⟩;go_wp2_with fail;go_ret;exact⟨by rw[e.out]<;>rfl,rfl⟩
 |false=>
  rw[hd]at s;have f:(b==4)=decide (b=4):=gX;have d:(b==1)=decide (b=1):=gX;by_cases g:a=33554432
  . have e:Hid (bF a b c=(b==4)):=by
     show _=_;unfold bF eK ep;rw[hd,f,g];simp
    subst g;exact jD
  have H:(a==33554432)=false:=by simp[g]
  by_cases h:a=33570816
  . have e:Hid (bF a b c=(b==4)):=by
     show _=_;unfold bF eK ep;rw[hd,f,h];simp
    subst h;exact jD
  have J:(a==33570816)=false:=by simp[h]
  by_cases i:a=33570820
  . have e:Hid (bF a b c=(b==4)):=by
     show _=_;unfold bF eK ep;rw[hd,f,i];simp
    subst i;exact jD
  have K:(a==33570820)=false:=by simp[i]
  by_cases k:a=33603576
  . have e:Hid (bF a b c=(b==4)):=by
     show _=_;unfold bF eK ep;rw[hd,f,k];simp
    subst k;exact jD
  have L:(a==33603576)=false:=by simp[k]
  by_cases m:a=33603580
  . have e:Hid (bF a b c=(b==4)):=by
     show _=_;unfold bF eK ep;rw[hd,f,m];simp
    subst m;exact jD
  have M:(a==33603580)=false:=by simp[m]
  by_cases n:a=268435456
  . have e:Hid (bF a b c=(b==1)):=by
     show _=_;unfold bF eK ep;rw[hd,d,n];simp
    subst n;exact jD
  have N:(a==268435456)=false:=by simp[n]
  by_cases o:a=268435457
  . have e:Hid (bF a b c=(b==1)):=by
     show _=_;unfold bF eK ep;rw[hd,d,o];simp
    subst o;exact jD
  have P:(a==268435457)=false:=by simp[o]
  by_cases p:a=268435458
  . have e:Hid (bF a b c=(b==1)):=by
     show _=_;unfold bF eK ep;rw[hd,d,p];simp
    subst p;exact jD
  have Q:(a==268435458)=false:=by simp[p]
  by_cases q:a=268435461
  . have e:Hid (bF a b c=(b==1)):=by
     show _=_;unfold bF eK ep;rw[hd,d,q];simp
    subst q;exact jD
  have R:(a==268435461)=false:=by simp[q]
  by_cases r:a=268435463
  . have e:Hid (bF a b c=(b==1)):=by
     show _=_;unfold bF eK ep;rw[hd,d,r];simp
    subst r;exact jD
  have S:(a==268435463)=false:=by simp[r]
  have e:Hid (bF a b c=false):=by
   show _=_;unfold bF eK ep;rw[hd];simp[g,h,i,k,m,n,o,p,q,r]
  clear hd f d g h i k m n o p q r;go_enter func416,ntmps416;go_wp2_with fail;refine s.out.mono ?_;rintro y G ⟨rfl,rfl⟩;go_wp2_with fail;go_ret;exact⟨by rw[e.out]<;>rfl,rfl⟩
structure Q where
 mode:Nat
 Ws:Nat
 Wd:Nat
 WC:Nat
 Wq:Nat
 WM:Nat
 Wl:Nat
 WJ:Nat
 sum:Nat
 WT:Nat
 WL:Nat
 WS:Nat
 WX:Nat
 Wz:Nat
 WK:Nat
 Wm:Nat
 Wx:Nat
 WB:Nat
 Wp:Nat
 WH:Nat
 WR:Nat
 Wu:Nat
 WD:Nat
 WI:Nat
 WA:Nat
 WG:Nat
 V9:Nat
 enable:Nat
 soft:Nat
 Xf:Nat
 Wf:Nat
 Wa:Nat
 Wg:Nat
 ret:Nat
 We:Nat
 held:Nat
 W6:Bool
 W7:Bool
def ma (b:Nat)(a:Q):List Value:=[I b,j a.mode,j a.Ws,j a.Wd,j a.WC,j a.Wq,j a.WM,j a.Wl,j a.WJ,j a.sum,j a.WT,j a.WL,j a.WS,j a.WX,j a.Wz,j a.WK,j a.Wm,j a.Wx,j a.WB,j a.Wp,j a.WH,j a.WR,j a.Wu,j a.WD,j a.WI,j a.WA,j a.WG,j a.V9,j a.enable,j a.soft,j a.Xf,j a.Wf,j a.Wa,j a.Wg,j a.ret,j a.We,j a.held,.bool a.W6,.bool a.W7]
structure T (c:D)(a e:Nat)(d:Q):Prop where
 cell:∀b,b<39->c.cell? ⟨a,b,none⟩=(ma e d)[b]?
 Wb:∀f,c.frozen? ⟨a,f,none⟩=false
 lt:a<c.heap.size
def T.more {i w':D}{a e:Nat}{d:Q}{G:List Nat}(b:T i a e d)(c:Kept G i w')(f:a∉G):T w' a e d:=
 ⟨fun g j=>(c.cell (p:=⟨a,g,none⟩) b.lt f).trans (b.cell g j),fun h=>(c.frozen (p:=⟨a,h,none⟩) b.lt f).trans (b.Wb h),aR b.lt c.size⟩
theorem T.set {k:D}{f d:Nat}{e C':Q}(b:T k f d e)(a:Nat)(g:Value)(n:ma d C'=(ma d e).set a g)(o:a<39):T (k.setCell ⟨f,a,none⟩ g) f d C':=by
 have q:(ma d e).length=39:=rfl;have l:=b.Wb;have p:=b.lt;have h:=b.cell a o;rw[fa (show a< (ma d e).length by omega)]at h;refine⟨fun c i=>?_,?_,?_⟩
 . exact I0
 . simp[go_sem,l]
 . simp[go_sem,p]
def T.V8 {c:D}{b a:Nat}{d:Q}(e:T c b a d):c.cell? ⟨b,0,none⟩=some (I a):=e.cell 0 (by omega)
def T.c1 {c:D}{b d:Nat}{a:Q}(e:T c b d a):c.cell? ⟨b,1,none⟩=some (j a.mode):=e.cell 1 (by omega)
def T.c2 {c:D}{b d:Nat}{a:Q}(e:T c b d a):c.cell? ⟨b,2,none⟩=some (j a.Ws):=e.cell 2 (by omega)
def T.c3 {c:D}{b d:Nat}{a:Q}(e:T c b d a):c.cell? ⟨b,3,none⟩=some (j a.Wd):=e.cell 3 (by omega)
def T.c4 {c:D}{b d:Nat}{a:Q}(e:T c b d a):c.cell? ⟨b,4,none⟩=some (j a.WC):=e.cell 4 (by omega)
def T.c5 {c:D}{b d:Nat}{a:Q}(e:T c b d a):c.cell? ⟨b,5,none⟩=some (j a.Wq):=e.cell 5 (by omega)
def T.W4 {c:D}{b d:Nat}{a:Q}(e:T c b d a):c.cell? ⟨b,6,none⟩=some (j a.WM):=e.cell 6 (by omega)
def T.W5 {c:D}{b d:Nat}{a:Q}(e:T c b d a):c.cell? ⟨b,7,none⟩=some (j a.Wl):=e.cell 7 (by omega)
def T.Xj {c:D}{b d:Nat}{a:Q}(e:T c b d a):c.cell? ⟨b,8,none⟩=some (j a.WJ):=e.cell 8 (by omega)
def T.Xi {c:D}{b d:Nat}{a:Q}(e:T c b d a):c.cell? ⟨b,9,none⟩=some (j a.sum):=e.cell 9 (by omega)
def T.Xt {c:D}{b d:Nat}{a:Q}(e:T c b d a):c.cell? ⟨b,10,none⟩=some (j a.WT):=e.cell 10 (by omega)
def T.XO {c:D}{b d:Nat}{a:Q}(e:T c b d a):c.cell? ⟨b,11,none⟩=some (j a.WL):=e.cell 11 (by omega)
def T.X1 {c:D}{b d:Nat}{a:Q}(e:T c b d a):c.cell? ⟨b,12,none⟩=some (j a.WS):=e.cell 12 (by omega)
def T.X2 {c:D}{b d:Nat}{a:Q}(e:T c b d a):c.cell? ⟨b,13,none⟩=some (j a.WX):=e.cell 13 (by omega)
def T.Yd {c:D}{b d:Nat}{a:Q}(e:T c b d a):c.cell? ⟨b,14,none⟩=some (j a.Wz):=e.cell 14 (by omega)
def T.Ys {c:D}{b d:Nat}{a:Q}(e:T c b d a):c.cell? ⟨b,15,none⟩=some (j a.WK):=e.cell 15 (by omega)
def T.X3 {c:D}{b d:Nat}{a:Q}(e:T c b d a):c.cell? ⟨b,16,none⟩=some (j a.Wm):=e.cell 16 (by omega)
def T.Ye {c:D}{b d:Nat}{a:Q}(e:T c b d a):c.cell? ⟨b,17,none⟩=some (j a.Wx):=e.cell 17 (by omega)
def T.Yf {c:D}{b d:Nat}{a:Q}(e:T c b d a):c.cell? ⟨b,18,none⟩=some (j a.WB):=e.cell 18 (by omega)
def T.Yg {c:D}{b d:Nat}{a:Q}(e:T c b d a):c.cell? ⟨b,19,none⟩=some (j a.Wp):=e.cell 19 (by omega)
def T.Yh {c:D}{b d:Nat}{a:Q}(e:T c b d a):c.cell? ⟨b,20,none⟩=some (j a.WH):=e.cell 20 (by omega)
def T.Yt {c:D}{b d:Nat}{a:Q}(e:T c b d a):c.cell? ⟨b,21,none⟩=some (j a.WR):=e.cell 21 (by omega)
def T.X4 {c:D}{b d:Nat}{a:Q}(e:T c b d a):c.cell? ⟨b,22,none⟩=some (j a.Wu):=e.cell 22 (by omega)
def T.Yi {c:D}{b d:Nat}{a:Q}(e:T c b d a):c.cell? ⟨b,23,none⟩=some (j a.WD):=e.cell 23 (by omega)
def T.Yj {c:D}{b d:Nat}{a:Q}(e:T c b d a):c.cell? ⟨b,24,none⟩=some (j a.WI):=e.cell 24 (by omega)
def T.Yk {c:D}{b d:Nat}{a:Q}(e:T c b d a):c.cell? ⟨b,25,none⟩=some (j a.WA):=e.cell 25 (by omega)
def T.Yl {c:D}{b d:Nat}{a:Q}(e:T c b d a):c.cell? ⟨b,26,none⟩=some (j a.WG):=e.cell 26 (by omega)
def T.XB {c:D}{b d:Nat}{a:Q}(e:T c b d a):c.cell? ⟨b,27,none⟩=some (j a.V9):=e.cell 27 (by omega)
def T.XI {c:D}{b d:Nat}{a:Q}(e:T c b d a):c.cell? ⟨b,28,none⟩=some (j a.enable):=e.cell 28 (by omega)
def T.X5 {c:D}{b d:Nat}{a:Q}(e:T c b d a):c.cell? ⟨b,29,none⟩=some (j a.soft):=e.cell 29 (by omega)
def T.Ym {c:D}{b d:Nat}{a:Q}(e:T c b d a):c.cell? ⟨b,30,none⟩=some (j a.Xf):=e.cell 30 (by omega)
def T.X6 {c:D}{b d:Nat}{a:Q}(e:T c b d a):c.cell? ⟨b,31,none⟩=some (j a.Wf):=e.cell 31 (by omega)
def T.Ya {c:D}{b d:Nat}{a:Q}(e:T c b d a):c.cell? ⟨b,32,none⟩=some (j a.Wa):=e.cell 32 (by omega)
def T.Xk {c:D}{b d:Nat}{a:Q}(e:T c b d a):c.cell? ⟨b,33,none⟩=some (j a.Wg):=e.cell 33 (by omega)
def T.Xl {c:D}{b d:Nat}{a:Q}(e:T c b d a):c.cell? ⟨b,34,none⟩=some (j a.ret):=e.cell 34 (by omega)
def T.Xq {c:D}{b d:Nat}{a:Q}(e:T c b d a):c.cell? ⟨b,35,none⟩=some (j a.We):=e.cell 35 (by omega)
def T.XJ {c:D}{b d:Nat}{a:Q}(e:T c b d a):c.cell? ⟨b,36,none⟩=some (j a.held):=e.cell 36 (by omega)
def T.XC {c:D}{b d:Nat}{a:Q}(e:T c b d a):c.cell? ⟨b,37,none⟩=some (.bool a.W6):=e.cell 37 (by omega)
def T.Xm {c:D}{b d:Nat}{a:Q}(e:T c b d a):c.cell? ⟨b,38,none⟩=some (.bool a.W7):=e.cell 38 (by omega)
structure ay (a:Q):Prop where
 mode:a.mode=0\/a.mode=1\/a.mode=3
 Wl:a.Wl=0\/a.Wl=1\/a.Wl=3
 Ws:a.Ws<2
 Wd:a.Wd<2
 WC:a.WC<2
 Wq:a.Wq<2
 WM:a.WM<2
 WJ:a.WJ<2
 sum:a.sum<2
 WT:a.WT<2
 WL:a.WL<2
 WS:a.WS<2
 WX:a.WX<2
 Wz:a.Wz<4294967296
 WK:a.WK<4294967296
 Wm:a.Wm<4294967296
 Wx:a.Wx<4294967296
 WB:a.WB<4294967296
 Wp:a.Wp<4294967296
 WH:a.WH<4294967296
 WR:a.WR<4294967296
 Wu:a.Wu<4294967296
 WD:a.WD<4294967296
 WI:a.WI<4294967296
 WA:a.WA<4294967296
 WG:a.WG<4294967296
 V9:a.V9<4294967296
 enable:a.enable<4294967296
 soft:a.soft<4294967296
 Xf:a.Xf<4294967296
 Wf:a.Wf<4294967296
 Wa:a.Wa<4294967296
 Wg:a.Wg<4294967296
 ret:a.ret<4294967296
 We:a.We<4294967296
 held:a.held<4294967296
def fx (a:Q):Nat:=a.Ws*2+a.Wd*8+a.WC*32+a.Wq*128+a.WM*256+a.Wl*2048+a.WJ*131072+a.sum*262144+a.WT*524288+a.WL*1048576+a.WS*2097152+a.WX*4194304
def k9 (a:Q):Nat:=a.Ws*2+a.WC*32+a.WM*256+a.sum*262144+a.WT*524288
def aee (d g:Nat)(b:Q)(c:ay b)(e:D)(a:Hid (T e d g b)):
 aa 322 #[I d] (j (k9 b)) e:=by
 have c2:=a.out.c2;have c3:=a.out.c3;have c4:=a.out.c4;have c5:=a.out.c5;have r:=a.out.W4;have s:=a.out.W5;have t:=a.out.Xj;have u:=a.out.Xi;have n:=a.out.Xt;have o:=a.out.XO;have p:=a.out.X1;have q:=a.out.X2;have i:=c.Ws;have k:=c.WC;have l:=c.WM;have m:=c.sum;have h:=c.WT;have f:Hid (((k9 b:Nat):Int)=(b.Ws:Int)*2+(b.WC:Int)*32+(b.WM:Int)*256+(b.sum:Int)*262144+(b.WT:Int)*524288):=by show _=_;unfold k9;omega
 clear c;go_enter func322,ntmps322;exact I1
def EM (c h:Nat)(a:Q)(d:ay a)(e:D)(b:Hid (T e c h a)):
 aa 325 #[I c] (j (fx a)) e:=by
 have c2:=b.out.c2;have c3:=b.out.c3;have c4:=b.out.c4;have c5:=b.out.c5;have z:=b.out.W4;have A:=b.out.W5;have B:=b.out.Xj;have C:=b.out.Xi;have v:=b.out.Xt;have w:=b.out.XO;have x:=b.out.X1;have y:=b.out.X2;obtain⟨-,g,o,k,p,l,q,m,r,n,t,u,s,-,-,-,-,-,-,-,-,-,-,-,-,-,-,-,-,-,-,-,-,-,-,-⟩:=id d;have i:a.Wl<=3:=J;have f:Hid (((fx a:Nat):Int)=(a.Ws:Int)*2+(a.Wd:Int)*8+(a.WC:Int)*32+(a.Wq:Int)*128+(a.WM:Int)*256+(a.Wl:Int)*2048+(a.WJ:Int)*131072+(a.sum:Int)*262144+(a.WT:Int)*524288+(a.WL:Int)*1048576+(a.WS:Int)*2097152+(a.WX:Int)*4194304):=by show _=_;unfold fx;omega
 clear d g;go_enter func325,ntmps325;exact I1
end Go.Proofs.YtmlgonbhoknoiaaGreatDoor
