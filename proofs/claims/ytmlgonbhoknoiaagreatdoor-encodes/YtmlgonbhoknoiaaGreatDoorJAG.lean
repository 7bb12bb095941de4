import Derived.Test.YtmlgonbhoknoiaaGreatDoorJAD
set_option maxHeartbeats 8000000
set_option maxRecDepth 100000
set_option linter.all false
namespace Go.Proofs.YtmlgonbhoknoiaaGreatDoor
open Go.RowKit Go.Proofs.Tryz
def fk (a:Int)(b:-9223372036854775808<=a/\a<=9223372036854775807):IntKind.i64.wrap a=a:=by
 simp[IntKind.wrap,IntKind.bits,IntKind.signed];omega
def eo (c:K):Nat->Nat->Nat->P->Nat×P
 |0,_,b,a=>(b,a)
 |d+1,i,b,a=>if a.rx.size<4 then eo c d (i+1) (b+1) {a with rx:=a.rx++c.extract i (i+1)}else eo c d (i+1) b {a with lost:=true}
def acq (b:Nat)(a:K)(d:64<a.size)(c:D):
 O 239 #[I b,.string a] (.tuple #[j 0,j 1]) c:=by
 have e:decide (64< (a.size:Int))=true:=M;go_enter func239,ntmps239;exact ik
theorem acp (k t:Nat)(n:P)(R:n.rx.size<=4)(a:K)(ab:a.size<=64)(c:D)(X:Hid (ap c k t n)):
 Calls prog 239 #[I k,.string a] c fun Q w=>Q=.returned (.tuple #[j (eo a a.size 0 0 n).1,j 0])/\ap w k t (eo a a.size 0 0 n).2/\Kept [k] c w:=by
 have ah:decide (64< (a.size:Int))=false:=M;obtain⟨d,v⟩:=y (eo a a.size 0 0 n);rw[<-v];have C:=l v;clear v;go_enter func239,ntmps239;go_wp2_with fail;go_loopw [6,7] (fun N q wr=>∃(i g:Nat) (b:P),i<=a.size/\g<=i/\N=j g/\q=j i/\b.rx.size<=4/\Hid (ap wr k t b)/\Hid (Kept [k] c wr)/\Hid (d=eo a (a.size-i) i g b)) (fun _ q _=>a.size- (intOf q).toNat);case atStart=>exact⟨0,0,n,by omega,by omega,rfl,rfl,R,X,l (Kept.refl _ _),C⟩
 case round=>
  obtain⟨i,g,b,ad,af,rfl,rfl,E,h,f,e⟩:=hrel;clear C;have Y:=h.out.Xj;have Z:=h.out.Xi;have aa:=h.out.Wb;by_cases ae:i<a.size
  . have s:Hid (d=if b.rx.size<4 then eo a (a.size- (i+1)) (i+1) (g+1) {b with rx:=b.rx++a.extract i (i+1)}else eo a (a.size- (i+1)) (i+1) g {b with lost:=true}):=by
     show d=_;rw[e.out,show a.size-i=(a.size- (i+1))+1 by omega];rfl
    clear e;by_cases H:b.rx.size<4
    . have J:decide ((b.rx.size:Int)<4)=true:=M;have p:Hid (d=eo a (a.size- (i+1)) (i+1) (g+1) {b with rx:=b.rx++a.extract i (i+1)}):=by show d=_;rw[s.out,B H]
      have W:∀c,(Instr.slice 9 (.string a) (some (.int .i64 (i:Int))) (some (.int .i64 ((i:Int)+1))) none).run prog c=.ok (.string (a.extract i (i+1))) c:=by
       intro c;have:=mz a i (i+1) m m c;simpa using this
      have T:(a.extract i (i+1)).size=1:=by simp[ByteArray.size_extract];omega
      obtain⟨u,G⟩:=y (a.extract i (i+1));rw[<-G]at W T p;obtain⟨o,r⟩:=y (b.rx++u);have ac:∀c,(Op.stringOp .add b.rx u).run prog c=.ok (.string o) c:=fun c=>vY (a:=b.rx) (b:=u) (c:=o) r.symm m c;have S:o.size<=4:=by rw[r,fm];omega
      rw[<-r]at p;clear G r s;have ag:=fk ((i:Int)+1) m;go_upto_region 8 with fail;go_cut [7]from 23 to 35 (fun q L=>q=j (i:Int)/\Hid (ap L k t {b with rx:=o})/\Hid (Kept [k] c L));case first=>
       go_region_with(fail);all_goals (go_wp2_with fail;go_meet)
       all_goals exact⟨rfl,l ((h.out.more (Below.kept (aq _ _).drew []) F F).YR o),l (f.out.drew.setCell (.inl F) _)⟩
      case rest=>
       obtain⟨rfl,U,V⟩:=hcut;go_wp2_with fail;go_roundw;case rel=>exact⟨i+1,g+1,{b with rx:=o},by omega,by omega,by go_num,by go_num,S,U,V,p⟩
       case measure=>exact a5
    . have J:decide ((b.rx.size:Int)<4)=false:=M;have p:Hid (d=eo a (a.size- (i+1)) (i+1) g {b with lost:=true}):=by show d=_;rw[s.out,z H]
      have A:=l (h.out.YQ true);have x:Hid (Kept [k] c (wr.setCell ⟨k,8,none⟩ (.bool true))):=zK;clear s;go_wp2_with fail;go_roundw;case rel=>
       first
        |exact⟨i+1,g,{b with lost:=true},by omega,by omega,rfl,by go_num,E,A,x,p⟩
        | ((repeat apply hC);exact⟨⟨i+1,g,{b with lost:=true},by omega,by omega,rfl,by go_num,E,A,x,p⟩,rfl⟩)
      case measure=>exact a5
  . have J:decide ((i:Int)< (a.size:Int))=false:=M;have O:Hid (d=(g,b)):=JE;exact IY
def laidB :List L->Nat->List L->List L
 |r,_,[]=>r
 |r,p,a::b=>laidB (r.set p a) (p+1) b
theorem wO :∀(a r:List L) (p:Nat),(laidB r p a).length=r.length
 |[],r,p=>rfl
 |b::a,r,p=>by simp only[laidB];rw[wO a];simp
def dN (c:P)(a:Int)(b:K):Int:=if 65536<b.size then 1 else if a<0\/(c.o.length:Int)-b.size<a then 2 else 0
def acZ (e t:Nat)(c:P)(n:aT c)(a:Int)(b:K)(u:b.size<=1125899906842624)(d:¬dN c a b=0)(h:D)(q:Hid (ap h e t c)):
 O 234 #[I e,j a,.string b] (j (dN c a b)) h:=by
 have l:=q.out.V8;have p:=n.o;obtain⟨k,o⟩:=y (c.o.length);unfold dN at d|-;rw[<-o]at l p d|-;by_cases g:65536<b.size
 . rw[B g];have r:decide (65536< (b.size:Int))=true:=M;exact zD
 rw[z g]at d|-;have r:decide (65536< (b.size:Int))=false:=M;have m:a<0\/(k:Int)-b.size<a:=FG fun i=>d (z i);rw[B m];by_cases f:a<0
 . have s:decide (a<0)=true:=lS;exact zD
 . have s:decide (a<0)=false:=M;exact zD
def acY (k e:Nat)(c:P)(N:aT c)(b:Nat)(a:K)(U:a.size<=65536)(W:b+a.size<=c.o.length)(n:D)(B:Hid (ap n k e c)):
 Calls prog 234 #[I k,j b,.string a] n fun G s=>G=.returned (j 0)/\ap s k e {c with o:=laidB c.o b a.data.toList}/\Kept [e] n s:=by
 have p:=B.out.V8;have Y:=N.o;have aa:decide (65536< (a.size:Int))=false:=M;have ab:decide ((b:Int)<0)=false:=bN;have R:decide ((c.o.length:Int)-a.size< (b:Int))=false:=M;obtain⟨g,r⟩:=y (laidB c.o b a.data.toList);rw[<-r];have v:Hid (g=laidB c.o (b+0) (a.data.toList.drop 0)):=r;clear r;go_enter func234,ntmps234;go_wp2_with fail;go_loopw [7] (fun q wr=>∃(i:Nat) (d:List L),i<=a.size/\q=j i/\d.length=c.o.length/\Hid (ap wr k e {c with o:=d})/\Hid (Kept [e] n wr)/\Hid (g=laidB d (b+i) (a.data.toList.drop i))) (fun q _=>a.size- (intOf q).toNat);case atStart=>exact⟨0,c.o,by omega,rfl,rfl,B,l (Kept.refl _ _),v⟩
 case round=>
  obtain⟨i,d,X,rfl,H,h,f,o⟩:=hrel;clear v p R;by_cases Q:i<a.size
  . have A:b+i<d.length:=J;have p:=h.out.V8;simp only at p;have S:=h.out.o (b+i) A;simp only at S;have ac:=h.out.XA (b+i);have z:Hid (g=laidB (d.set (b+i) a[i]) (b+(i+1)) (a.data.toList.drop (i+1))):=by
     show g=_;rw[o.out,eF a i Q];rfl
    have Z:=fk ((b:Int)+i) m;have O:Hid (∀C,Kept [e] n (wr.drew.setCell ⟨e,b+i,none⟩ C)):=l (fun C=>f.out.drew.setCell (.inl F) _);have t:Hid (ap (wr.drew.setCell ⟨e,b+i,none⟩ (.int .u8 (a[i].toNat:Int))) k e {c with o:=d.set (b+i) a[i]}):=l ((h.out.more (Below.kept (aq _ _).drew []) F F).Xn (b+i) A a[i]);have x:(d.set (b+i) a[i]).length=c.o.length:=zP;have u:=l x;clear o x;obtain⟨E,w⟩:=y (d.set (b+i) a[i]);rw[<-w]at z t u;clear w;go_upto_region 8 with fail;go_region_with(fail);all_goals (go_wp2_with fail;go_roundw;(case rel=>exact⟨i+1,E,by omega,by go_num,u.out,t,l (O.out _),z⟩);(case measure=>simp[intOf];omega))
  . have T:decide ((i:Int)< (a.size:Int))=false:=M;have V:Hid (g=d):=by
     show g=d;rw[o.out,eQ (by rw[dQ];show a.size<=i;omega)];rfl
    clear o;go_wp2_with fail;go_ret;exact IZ
def jf (r:List L)(c b:Nat):K:=strOfNums (((r.drop c).take b).map fun a=>(a.toNat:Int))
def ac3 (h t:Nat)(e:P)(m:aT e)(b a:Int)(u:-9223372036854775808<=a)(v:a<=9223372036854775807)(l:b<0\/a<0\/(e.o.length:Int)<a\/(e.o.length:Int)-a<b)(i:D)(p:Hid (ap i h t e)):
 O 245 #[I h,j b,j a] (.tuple #[.string ⟨#[]⟩,j 2]) i:=by
 have k:=p.out.V8;have o:=m.o;obtain⟨g,n⟩:=y (e.o.length);rw[<-n]at k o l;by_cases d:b<0
 . have q:decide (b<0)=true:=iZ;exact rW
 have q:decide (b<0)=false:=M;by_cases c:a<0
 . have r:decide (a<0)=true:=eT;exact rW
 have r:decide (a<0)=false:=M;by_cases f:(g:Int)<a
 . have s:decide ((g:Int)<a)=true:=lS;exact rW
 have s:decide ((g:Int)<a)=false:=M;exact rW
def ac2 (l e:Nat)(b:P)(n:aT b)(a c:Nat)(h:a+c<=b.o.length)(d:D)(k:Hid (ap d l e b)):
 O 245 #[I l,j a,j c] (.tuple #[.string (jf b.o a c),j 0]) d:=by
 have t:=k.out.V8;have f:=n.o;have H:decide ((a:Int)<0)=false:=bN;have J:decide ((c:Int)<0)=false:=bN;have A:decide ((b.o.length:Int)< (c:Int))=false:=M;have C:decide ((b.o.length:Int)-c< (a:Int))=false:=M;have v:∃g,(∀d,(Instr.slice 64 (.slice (some ⟨e,0,none⟩) b.o.length b.o.length) (some (.int .i64 (a:Int))) (some (.int .i64 ((a:Int)+c))) none).run prog d=.ok (.slice (some ⟨e,g,none⟩) c (b.o.length-a)) d)/\(c=0\/g=a):=by
  have f:∀d,(Instr.slice 64 (.slice (some ⟨e,0,none⟩) b.o.length b.o.length) (some (.int .i64 (a:Int))) (some (.int .i64 ((a:Int)+c))) none).run prog d=.ok (.slice (if b.o.length=a then some ⟨e,0,none⟩else some ⟨e,a,none⟩) c (b.o.length-a)) d:=by
   intro d;have hu:prog.underlying 64=some (.slice (prog.elem 64)):=gY;have h:=run_slice_lh (P:=prog) d 64 (some ⟨e,0,none⟩) b.o.length b.o.length hu .i64 .i64 (a:Int) ((a:Int)+c) m m m;rw[h];have x:(_root_.Go.sizeOf (prog.elem 64)).run prog d=.ok 1 d:=gY;rw[x];simp only[Result.andThen,sliced];rw[show((a:Int)).toNat=a by omega,show((a:Int)+c).toNat=a+c by omega,oH,gR,show(⟨e,0,none⟩:Addr).add a=⟨e,a,none⟩by(simp[Addr.add];intro h;exact h.symm),show a+c-a=c by omega]
  by_cases o:b.o.length=a
  . exact zE
  . exact zF
 obtain⟨g,w,s⟩:=v;have r:(convert 64 9 (.slice (some ⟨e,g,none⟩) c (b.o.length-a))).run prog d=.ok (.string (jf b.o a c)) d:=by
  refine tQ d 64 5 gQ oz e g c (b.o.length-a) _ ad (fun i u=>?_) 9 h5;rcases s with G|rfl
  . omega
  . rw[k.out.o (g+i) (by omega)];simp[List.getD,qY,List.getElem?_take,oE,u,fa (show g+i<b.o.length by omega)]
 obtain⟨F,q⟩:=y (jf b.o a c);rw[<-q]at r|-;clear q s;obtain⟨E,p⟩:=y (b.o.length);rw[<-p]at t f h A C w r;clear p k n;exact rW
def jc (a:Int):Bool:=if decide (800<=a)=true then(if decide (a<832)=true then decide (3<=a.tmod 32)else(if decide (3<=a.tmod 32)=true then(if decide (a.tdiv 32=88)=true then true else if decide (a.tdiv 32=92)=true then true else if decide (a.tdiv 32=96)=true then true else decide (a.tdiv 32=100))else false))else(if decide (3<=a.tmod 32)=true then(if decide (a.tdiv 32=88)=true then true else if decide (a.tdiv 32=92)=true then true else if decide (a.tdiv 32=96)=true then true else decide (a.tdiv 32=100))else false)
def aaw (a:Int)(c:-9223372036854775808<=a)(d:a<=9223372036854775807):-9223372036854775808<=a.tdiv 32/\a.tdiv 32<=9223372036854775807:=by
 have b:=ym a 32;have e:(a.tdiv 32).natAbs<=a.natAbs/32:=by rw[b];exact aB _
 omega
def aef (b:Int)(s:-9223372036854775808<=b)(t:b<=9223372036854775807)(w:D):
 O 320 #[j b] (.bool (jc b)) w:=by
 unfold jc;have o:=aaw b s t;obtain⟨v,u⟩:=fH (b.tmod 32);obtain⟨a,hd⟩:=fH (b.tdiv 32);rw[hd]at o;rw[u,hd];obtain⟨g,p⟩:=fH (decide (800<=b));obtain⟨h,q⟩:=fH (decide (b<832));obtain⟨i,r⟩:=fH (decide (3<=v));have f4:(a==88)=decide (a=88):=gX;have f5:(a==92)=decide (a=92):=gX;have f6:(a==96)=decide (a=96):=gX;have f7:(a==100)=decide (a=100):=gX;obtain⟨k,c⟩:=y (decide (a=88));obtain⟨l,d⟩:=y (decide (a=92));obtain⟨m,e⟩:=y (decide (a=96));obtain⟨n,f⟩:=y (decide (a=100));rw[p,q,r];rw[<-c]at f4|-;rw[<-d]at f5|-;rw[<-e]at f6|-;rw[<-f]at f7|-;clear c d e f;cases g<;>cases i<;>cases h<;> (try(cases k<;> (try(cases l<;> (try(cases m<;> (try cases n)))))));all_goals
  go_enter func320,ntmps320;exact cn
def jO :List Int:=[256,260,261,262,320,321,322,323,324,384,768,769,770,771,772,773,774,800,832,833,834,835,836,2816,2818,2944,2946,3072,3073,3074,3200,3201,3202,3857,3858,3859,3860]
def eW (a:Int):Bool:=if a∈jO then true else jc a
def xN (a:Int)(e:-9223372036854775808<=a)(f:a<=9223372036854775807)(Z:D):
 O 247 #[j a] (.bool (eW a)) Z:=by
 have d:=l (aef a e f Z);by_cases b:a∈jO
 . have c:eW a=true:=by unfold eW;rw[B b]
   rw[c];clear c d e f;unfold jO at b;simp only[dD,eR,eS]at b;rcases b with rfl|rfl|rfl|rfl|rfl|rfl|rfl|rfl|rfl|rfl|rfl|rfl|rfl|rfl|rfl|rfl|rfl|rfl|rfl|rfl|rfl|rfl|rfl|rfl|rfl|rfl|rfl|rfl|rfl|rfl|rfl|rfl|rfl|rfl|rfl|rfl|rfl;all_goals
    go_enter func247,ntmps247;exact cn
 . have c:eW a=jc a:=by unfold eW;rw[z b]
   rw[c];obtain⟨aa,g⟩:=y (jc a);rw[<-g]at d|-;clear c g;unfold jO at b;simp only[dD,eR,eS,gi]at b;obtain⟨h,i,v,K,T,U,V,W,X,Y,k,m,n,o,p,q,r,s,t,u,w,x,A,C,E,F,G,H,I,J,L,M,N,P,Q,R,S⟩:=b;have ab:(a==256)=false:=by simp[h]
   have ac:(a==260)=false:=by simp[i]
   have an:(a==261)=false:=by simp[v]
   have aA:(a==262)=false:=by simp[K]
   have aI:(a==320)=false:=by simp[T]
   have aJ:(a==321)=false:=by simp[U]
   have aK:(a==322)=false:=by simp[V]
   have aL:(a==323)=false:=by simp[W]
   have aM:(a==324)=false:=by simp[X]
   have aN:(a==384)=false:=by simp[Y]
   have ad:(a==768)=false:=by simp[k]
   have ae:(a==769)=false:=by simp[m]
   have af:(a==770)=false:=by simp[n]
   have ag:(a==771)=false:=by simp[o]
   have ah:(a==772)=false:=by simp[p]
   have ai:(a==773)=false:=by simp[q]
   have aj:(a==774)=false:=by simp[r]
   have ak:(a==800)=false:=by simp[s]
   have al:(a==832)=false:=by simp[t]
   have am:(a==833)=false:=by simp[u]
   have ao:(a==834)=false:=by simp[w]
   have ap:(a==835)=false:=by simp[x]
   have aq:(a==836)=false:=by simp[A]
   have ar:(a==2816)=false:=by simp[C]
   have au:(a==2818)=false:=by simp[E]
   have av:(a==2944)=false:=by simp[F]
   have aw:(a==2946)=false:=by simp[G]
   have ax:(a==3072)=false:=by simp[H]
   have ay:(a==3073)=false:=by simp[I]
   have az:(a==3074)=false:=by simp[J]
   have aB:(a==3200)=false:=by simp[L]
   have aC:(a==3201)=false:=by simp[M]
   have aD:(a==3202)=false:=by simp[N]
   have aE:(a==3857)=false:=by simp[P]
   have aF:(a==3858)=false:=by simp[Q]
   have aG:(a==3859)=false:=by simp[R]
   have aH:(a==3860)=false:=by simp[S]
   clear h i v K T U V W X Y k m n o p q r s t u w x A C E F G H I J L M N P Q R S;go_enter func247,ntmps247;go_wp2_with fail;refine d.out.mono ?_;exact ex
namespace u
def bq (a:Nat):List L:=(Nm.name a).data.toList
def db (b:List L):Nat->Nat->Nat×Nat
 |0,_=>(0,0)
 |c+1,a=>if b=bq a then(a,4)else if b=99::46::bq a then(a,2)else db b c (a+1)
def bk (a:List L):Nat×Nat:=if a=bq 71 then(71,4)else if a=bq 72 then(72,2)else db a 70 1
end u
def TC :((List.range 73).all fun a=>decide ((Nm.name a).size<=20))=true:=by decide+kernel
def nX (a:Nat)(b:a<=72):(Nm.name a).size<=20:=by
 have:=cj.1 TC a ad;rwa[cC]at this
def hf (a:K):(⟨a.data.toList.toArray⟩:K)=a:=by cases a;simp
def xw (a:Nat)(b:a<=72)(c:D):(Op.stringOp .add ⟨#[99,46]⟩ (Nm.name a)).run prog c=.ok (u.aG (99::46::u.bq a)) c:=by
 refine eb (a:=⟨#[99,46]⟩) (b:=Nm.name a) (c:=⟨(99::46::u.bq a).toArray⟩) ?_ (by have:=nX a b;have d:(⟨#[99,46]⟩:K).size=2:=rfl;rw[d];omega) c;have b:=he [99,46] (Nm.name a).data.toList;rw[hf]at b;exact b
def vX (a:Nat)(e:a<=72)(f:D):
 O 221 #[j a] (u.aG (99::46::u.bq a)) f:=by
 obtain⟨h,b⟩:=y (Nm.name a);have d:=xw a e;rw[<-b]at d;have c:=l b;clear b;go_enter func221,ntmps221;go_wp2_with(go_at_call 219;refine(jL a _).mono ?_;rintro i g ⟨rfl,rfl⟩;rw[<-c.out]);exact lR
def sv (b a:K):(b.toList==a.toList)=decide (b.data.toList=a.data.toList):=by
 rw[mR,mR,dZ];simp
def Ba (a:K)(J:D):
 O 253 #[.string a] (.tuple #[j (u.bk a.data.toList).1,j (u.bk a.data.toList).2]) J:=by
 obtain⟨o,f⟩:=y (u.bk a.data.toList);rw[<-f];unfold u.bk at f;obtain⟨G,r⟩:=y (Nm.name 71);obtain⟨H,s⟩:=y (Nm.name 72);have h:=sv a G;have d:=sv a H;rw[r]at h;rw[s]at d;change _=decide (a.data.toList=u.bq 71)at h;change _=decide (a.data.toList=u.bq 72)at d;rw[<-r]at h;rw[<-s]at d;have q:=l r;have t:=l s;clear r s;by_cases c1:a.data.toList=u.bq 71
 . rw[B c1]at f;rw[bd c1]at h;subst f;clear c1 d;go_enter func253,ntmps253;go_wp2_with(go_at_call 219;refine(jL 71 _).mono ?_;rintro n k ⟨rfl,rfl⟩;rw[<-q.out]);exact r3
 . rw[z c1]at f;rw[aV c1]at h;by_cases c2:a.data.toList=u.bq 72
   . rw[B c2]at f;rw[bd c2]at d;subst f;clear c1 c2;go_enter func253,ntmps253;go_wp2_with(go_at_call 219;refine(jL _ _).mono ?_;rintro n k ⟨rfl,rfl⟩;first|rw[<-q.out]|rw[<-t.out]);exact r3
   . rw[z c2]at f;rw[aV c2]at d;have c:=l f;clear c1 c2 f;go_enter func253,ntmps253;go_wp2_with(go_at_call 219;refine(jL _ _).mono ?_;rintro n k ⟨rfl,rfl⟩;first|rw[<-q.out]|rw[<-t.out]);clear h d q t;go_loop [4] (fun w=>∃i:Nat,1<=i/\i<=71/\w=j i/\Hid (o=u.db a.data.toList (71-i) i)) (fun w=>71- (intOf w).toNat);case atStart=>exact⟨1,by omega,by omega,rfl,c⟩
     case round=>
      obtain⟨i,N,M,rfl,b⟩:=hrel;by_cases L:i<71
      . obtain⟨I,x⟩:=y (Nm.name i:K);obtain⟨F,A⟩:=y (⟨(99::46::u.bq i).toArray⟩:K);have C:u.aG (99::46::u.bq i)=.string F:=by rw[A];rfl
        have h:(a.toList==I.toList)=decide (a.data.toList=u.bq i):=by rw[x];exact sv a _
        have d:=md a F _ A;have g:o=if a.data.toList=u.bq i then(i,4)else if a.data.toList=99::46::u.bq i then(i,2)else u.db a.data.toList (71- (i+1)) (i+1):=by
         rw[b.out,show 71-i=(71- (i+1))+1 by omega];rfl
        have v:=l x;have E:=l C;clear x A C;by_cases c1:a.data.toList=u.bq i
        . rw[B c1]at g;rw[bd c1]at h;have e:=l g;clear g b c d c1;go_wp2_with(go_at_call 219;refine(jL i _).mono ?_;rintro n k ⟨rfl,rfl⟩;rw[<-v.out]);exact vD
        . rw[z c1]at g;rw[aV c1]at h;by_cases c2:a.data.toList=99::46::u.bq i
          . rw[B c2]at g;rw[bd c2]at d;have e:=l g;clear g b c c1 c2;go_wp2_with(first|(go_at_call 219;refine(jL i _).mono ?_;rintro n k ⟨rfl,rfl⟩;rw[<-v.out])|(go_at_call 221;refine(vX i m _).mono ?_;rintro n k ⟨rfl,rfl⟩;rw[E.out]));exact vD
          . rw[z c2]at g;rw[aV c2]at d;have e:=l g;clear g b c c1 c2;go_wp2_with(first|(go_at_call 219;refine(jL i _).mono ?_;rintro n k ⟨rfl,rfl⟩;rw[<-v.out])|(go_at_call 221;refine(vX i m _).mono ?_;rintro n k ⟨rfl,rfl⟩;rw[E.out]));go_round;case rel=>exact⟨i+1,by omega,by omega,by go_num,e⟩
            case measure=>exact a5
      . obtain rfl:i=71:=by omega
        exact Mc
namespace u
def jn (b:List L):Nat->Nat->Nat×Nat
 |0,_=>(0,0)
 |c+1,a=>if b=bq a then(a,if a=72 then 2 else 4)else if b=99::46::bq a/\a<=70 then(a,2)else jn b c (a+1)
end u
theorem Fa (c:List L):∀(b a:Nat),1<=a->a+b=71->u.jn c (b+2) a=if u.db c b a=(0,0)then u.jn c 2 71 else u.db c b a
 |0,a,f,d=>by
  obtain rfl:a=71:=by omega
  rw[show u.db c 0 71=(0,0)from rfl,B rfl]
 |b+1,a,f,d=>by
  have e:=Fa c b (a+1) (by omega) (by omega)
  rw[show b+1+2=(b+2)+1 by omega]
  simp only[u.jn,u.db]at e|-
  by_cases c1:c=u.bq a
  . rw[B c1,B c1,z (show ¬a=72 by omega),z (by simp)]
  . rw[z c1,z c1]
    by_cases c2:c=99::46::u.bq a
    . rw[B ⟨c2,by omega⟩,B c2,z (by simp)]
    . rw[z (fun d=>c2 d.1),z c2,e]
def afw :u.db (u.bq 71) 70 1=(0,0):=by decide+kernel
def afx :u.db (u.bq 72) 70 1=(0,0):=by decide+kernel
def afy (a:List L):u.jn a 72 1=u.bk a:=by
 rw[Fa a 70 1 (by omega) (by omega)];unfold u.bk;have b:u.jn a 2 71=if a=u.bq 71 then(71,4)else if a=u.bq 72 then(72,2)else(0,0):=by
  simp[u.jn]
 rw[b];by_cases c1:a=u.bq 71
 . rw[B c1,B c1,c1,afw,B rfl]
 . rw[z c1,z c1];by_cases c2:a=u.bq 72
   . rw[B c2,B c2,c2,afx,B rfl]
   . rw[z c2,z c2];by_cases c3:u.db a 70 1=(0,0)
     . rw[B c3,c3]
     . rw[z c3]
def abd (a:K)(J:D):
 O 228 #[.string a] (.tuple #[j (u.bk a.data.toList).1,j (u.bk a.data.toList).2]) J:=by
 rw[<-afy];obtain⟨o,r⟩:=y (u.jn a.data.toList 72 1);rw[<-r];have c:=l r;clear r;go_enter func228,ntmps228;go_wp2;go_loop [4,5] (fun G n=>∃i:Nat,1<=i/\i<=73/\n=j i/\(i<=72->G=j 4)/\(∃t,G=j t)/\Hid (o=u.jn a.data.toList (73-i) i)) (fun _ n=>73- (intOf n).toNat);case atStart=>exact⟨1,by omega,by omega,rfl,fun _=>rfl,⟨_,rfl⟩,c⟩
 case round=>
  obtain⟨i,Q,P,rfl,F,⟨t,rfl⟩,b⟩:=hrel;by_cases N:i<73
  . have C:=F m;obtain rfl:t=4:=by cases C;rfl
    clear F C;obtain⟨H,g⟩:=y (Nm.name i:K);obtain⟨k,s⟩:=y (⟨(99::46::u.bq i).toArray⟩:K);have A:u.aG (99::46::u.bq i)=.string k:=by rw[s];rfl
    have v:(a.toList==H.toList)=decide (a.data.toList=u.bq i):=by rw[g];exact sv a _
    have h:=md a k _ s;have I:=xw i m;rw[A,<-g]at I;have d:o=if a.data.toList=u.bq i then(i,if i=72 then 2 else 4)else if a.data.toList=99::46::u.bq i/\i<=70 then(i,2)else u.jn a.data.toList (73- (i+1)) (i+1):=by
     rw[b.out,show 73-i=(73- (i+1))+1 by omega];rfl
    have x:=l g;clear g s A;have w:((i:Int)==72)=decide (i=72):=ij;by_cases f:i=72
    . rw[bd f]at w;by_cases c1:a.data.toList=u.bq i
      . rw[B c1,B f]at d;exact Md
      . rw[z c1,z (by omega)]at d;rw[aV c1]at v;have e:=l d;have E:decide ((i:Int)<=70)=false:=M;cases L:(a.toList==k.toList)
        . exact Me
        . exact Me
    . rw[aV f]at w;by_cases c1:a.data.toList=u.bq i
      . rw[B c1,z f]at d;exact Md
      . rw[z c1]at d;rw[aV c1]at v;by_cases c2:a.data.toList=99::46::u.bq i
        . rw[bd c2]at h;by_cases c3:i<=70
          . rw[B ⟨c2,c3⟩]at d;have e:=l d;have E:decide ((i:Int)<=70)=true:=M;clear d b c c1 f c2;exact Mf
          . rw[z (fun q=>c3 q.2)]at d;have e:=l d;have E:decide ((i:Int)<=70)=false:=M;exact Mg
        . rw[z (fun q=>c2 q.1)]at d;rw[aV c2]at h;have e:=l d;exact Mg
  . obtain rfl:i=73:=by omega
    exact Mc
end Go.Proofs.YtmlgonbhoknoiaaGreatDoor
