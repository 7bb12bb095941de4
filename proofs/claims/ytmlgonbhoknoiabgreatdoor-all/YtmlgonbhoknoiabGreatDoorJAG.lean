import Derived.Test.YtmlgonbhoknoiabGreatDoorJAD
set_option maxHeartbeats 8000000
set_option maxRecDepth 100000
set_option linter.all false
namespace Go.Proofs.YtmlgonbhoknoiabGreatDoor
open Go.RowKit Go.Proofs.Tryz
def fj (a:Int)(b:-9223372036854775808<=a/\a<=9223372036854775807):IntKind.i64.wrap a=a:=by
 simp[IntKind.wrap,IntKind.bits,IntKind.signed];omega
def eo (c:K):Nat->Nat->Nat->P->Nat×P
 |0,_,b,a=>(b,a)
 |d+1,i,b,a=>if a.rx.size<4 then eo c d (i+1) (b+1) {a with rx:=a.rx++c.extract i (i+1)}else eo c d (i+1) b {a with lost:=true}
def abK (b:Nat)(a:K)(d:64<a.size)(c:D):
 O 245 #[I b,.string a] (.tuple #[j 0,j 1]) c:=by
 have e:decide (64< (a.size:Int))=true:=M;go_enter func245,ntmps245;exact il
theorem abJ (k t:Nat)(n:P)(R:n.rx.size<=4)(a:K)(ab:a.size<=64)(c:D)(X:Hid (ap c k t n)):
 Calls prog 245 #[I k,.string a] c fun Q w=>Q=.returned (.tuple #[j (eo a a.size 0 0 n).1,j 0])/\ap w k t (eo a a.size 0 0 n).2/\Kept [k] c w:=by
 have ah:decide (64< (a.size:Int))=false:=M;obtain⟨d,v⟩:=y (eo a a.size 0 0 n);rw[<-v];have C:=l v;clear v;go_enter func245,ntmps245;go_wp2_with fail;go_loopw [6,7] (fun N q wr=>∃(i g:Nat) (b:P),i<=a.size/\g<=i/\N=j g/\q=j i/\b.rx.size<=4/\Hid (ap wr k t b)/\Hid (Kept [k] c wr)/\Hid (d=eo a (a.size-i) i g b)) (fun _ q _=>a.size- (intOf q).toNat);case atStart=>exact⟨0,0,n,by omega,by omega,rfl,rfl,R,X,l (Kept.refl _ _),C⟩
 case round=>
  obtain⟨i,g,b,ad,af,rfl,rfl,E,h,f,e⟩:=hrel;clear C;have Y:=h.out.Xj;have Z:=h.out.Xi;have aa:=h.out.Wb;by_cases ae:i<a.size
  . have s:Hid (d=if b.rx.size<4 then eo a (a.size- (i+1)) (i+1) (g+1) {b with rx:=b.rx++a.extract i (i+1)}else eo a (a.size- (i+1)) (i+1) g {b with lost:=true}):=by
     show d=_;rw[e.out,show a.size-i=(a.size- (i+1))+1 by omega];rfl
    clear e;by_cases H:b.rx.size<4
    . have J:decide ((b.rx.size:Int)<4)=true:=M;have p:Hid (d=eo a (a.size- (i+1)) (i+1) (g+1) {b with rx:=b.rx++a.extract i (i+1)}):=by show d=_;rw[s.out,B H]
      have W:∀c,(Instr.slice 9 (.string a) (some (.int .i64 (i:Int))) (some (.int .i64 ((i:Int)+1))) none).run prog c=.ok (.string (a.extract i (i+1))) c:=by
       intro c;have:=mx a i (i+1) m m c;simpa using this
      have T:(a.extract i (i+1)).size=1:=by simp[ByteArray.size_extract];omega
      obtain⟨u,G⟩:=y (a.extract i (i+1));rw[<-G]at W T p;obtain⟨o,r⟩:=y (b.rx++u);have ac:∀c,(Op.stringOp .add b.rx u).run prog c=.ok (.string o) c:=fun c=>wq (a:=b.rx) (b:=u) (c:=o) r.symm m c;have S:o.size<=4:=by rw[r,fl];omega
      rw[<-r]at p;clear G r s;have ag:=fj ((i:Int)+1) m;go_upto_region 8 with fail;go_cut [7]from 23 to 35 (fun q L=>q=j (i:Int)/\Hid (ap L k t {b with rx:=o})/\Hid (Kept [k] c L));case first=>
       go_region_with(fail);all_goals (go_wp2_with fail;go_meet)
       all_goals exact⟨rfl,l ((h.out.more (Below.kept (aq _ _).drew []) F F).YR o),l (f.out.drew.setCell (.inl F) _)⟩
      case rest=>
       obtain⟨rfl,U,V⟩:=hcut;go_wp2_with fail;go_roundw;case rel=>exact⟨i+1,g+1,{b with rx:=o},by omega,by omega,by go_num,by go_num,S,U,V,p⟩
       case measure=>exact a4
    . have J:decide ((b.rx.size:Int)<4)=false:=M;have p:Hid (d=eo a (a.size- (i+1)) (i+1) g {b with lost:=true}):=by show d=_;rw[s.out,z H]
      have A:=l (h.out.YQ true);have x:Hid (Kept [k] c (wr.setCell ⟨k,8,none⟩ (.bool true))):=Ab;clear s;go_wp2_with fail;go_roundw;case rel=>
       first
        |exact⟨i+1,g,{b with lost:=true},by omega,by omega,rfl,by go_num,E,A,x,p⟩
        | ((repeat apply hB);exact⟨⟨i+1,g,{b with lost:=true},by omega,by omega,rfl,by go_num,E,A,x,p⟩,rfl⟩)
      case measure=>exact a4
  . have J:decide ((i:Int)< (a.size:Int))=false:=M;have O:Hid (d=(g,b)):=JZ;exact Ji
def laidB :List L->Nat->List L->List L
 |r,_,[]=>r
 |r,p,a::b=>laidB (r.set p a) (p+1) b
theorem xb :∀(a r:List L) (p:Nat),(laidB r p a).length=r.length
 |[],r,p=>rfl
 |b::a,r,p=>by simp only[laidB];rw[xb a];simp
def dL (c:P)(a:Int)(b:K):Int:=if 65536<b.size then 1 else if a<0\/(c.o.length:Int)-b.size<a then 2 else 0
def acj (e t:Nat)(c:P)(n:aS c)(a:Int)(b:K)(u:b.size<=1125899906842624)(d:¬dL c a b=0)(h:D)(q:Hid (ap h e t c)):
 O 240 #[I e,j a,.string b] (j (dL c a b)) h:=by
 have l:=q.out.V8;have p:=n.o;obtain⟨k,o⟩:=y (c.o.length);unfold dL at d|-;rw[<-o]at l p d|-;by_cases g:65536<b.size
 . rw[B g];have r:decide (65536< (b.size:Int))=true:=M;exact zZ
 rw[z g]at d|-;have r:decide (65536< (b.size:Int))=false:=M;have m:a<0\/(k:Int)-b.size<a:=F1 fun i=>d (z i);rw[B m];by_cases f:a<0
 . have s:decide (a<0)=true:=lS;exact zZ
 . have s:decide (a<0)=false:=M;exact zZ
def aci (k e:Nat)(c:P)(N:aS c)(b:Nat)(a:K)(U:a.size<=65536)(W:b+a.size<=c.o.length)(n:D)(B:Hid (ap n k e c)):
 Calls prog 240 #[I k,j b,.string a] n fun G s=>G=.returned (j 0)/\ap s k e {c with o:=laidB c.o b a.data.toList}/\Kept [e] n s:=by
 have p:=B.out.V8;have Y:=N.o;have aa:decide (65536< (a.size:Int))=false:=M;have ab:decide ((b:Int)<0)=false:=bL;have R:decide ((c.o.length:Int)-a.size< (b:Int))=false:=M;obtain⟨g,r⟩:=y (laidB c.o b a.data.toList);rw[<-r];have v:Hid (g=laidB c.o (b+0) (a.data.toList.drop 0)):=r;clear r;go_enter func240,ntmps240;go_wp2_with fail;go_loopw [7] (fun q wr=>∃(i:Nat) (d:List L),i<=a.size/\q=j i/\d.length=c.o.length/\Hid (ap wr k e {c with o:=d})/\Hid (Kept [e] n wr)/\Hid (g=laidB d (b+i) (a.data.toList.drop i))) (fun q _=>a.size- (intOf q).toNat);case atStart=>exact⟨0,c.o,by omega,rfl,rfl,B,l (Kept.refl _ _),v⟩
 case round=>
  obtain⟨i,d,X,rfl,H,h,f,o⟩:=hrel;clear v p R;by_cases Q:i<a.size
  . have A:b+i<d.length:=J;have p:=h.out.V8;simp only at p;have S:=h.out.o (b+i) A;simp only at S;have ac:=h.out.XA (b+i);have z:Hid (g=laidB (d.set (b+i) a[i]) (b+(i+1)) (a.data.toList.drop (i+1))):=by
     show g=_;rw[o.out,eF a i Q];rfl
    have Z:=fj ((b:Int)+i) m;have O:Hid (∀C,Kept [e] n (wr.drew.setCell ⟨e,b+i,none⟩ C)):=l (fun C=>f.out.drew.setCell (.inl F) _);have t:Hid (ap (wr.drew.setCell ⟨e,b+i,none⟩ (.int .u8 (a[i].toNat:Int))) k e {c with o:=d.set (b+i) a[i]}):=l ((h.out.more (Below.kept (aq _ _).drew []) F F).Xn (b+i) A a[i]);have x:(d.set (b+i) a[i]).length=c.o.length:=Ag;have u:=l x;clear o x;obtain⟨E,w⟩:=y (d.set (b+i) a[i]);rw[<-w]at z t u;clear w;go_upto_region 8 with fail;go_region_with(fail);all_goals (go_wp2_with fail;go_roundw;(case rel=>exact⟨i+1,E,by omega,by go_num,u.out,t,l (O.out _),z⟩);(case measure=>simp[intOf];omega))
  . have T:decide ((i:Int)< (a.size:Int))=false:=M;have V:Hid (g=d):=by
     show g=d;rw[o.out,eQ (by rw[dP];show a.size<=i;omega)];rfl
    clear o;go_wp2_with fail;go_ret;exact Jj
def ji (r:List L)(c b:Nat):K:=strOfNums (((r.drop c).take b).map fun a=>(a.toNat:Int))
def aco (h t:Nat)(e:P)(m:aS e)(b a:Int)(u:-9223372036854775808<=a)(v:a<=9223372036854775807)(l:b<0\/a<0\/(e.o.length:Int)<a\/(e.o.length:Int)-a<b)(i:D)(p:Hid (ap i h t e)):
 O 251 #[I h,j b,j a] (.tuple #[.string ⟨#[]⟩,j 2]) i:=by
 have k:=p.out.V8;have o:=m.o;obtain⟨g,n⟩:=y (e.o.length);rw[<-n]at k o l;by_cases d:b<0
 . have q:decide (b<0)=true:=i3;exact sk
 have q:decide (b<0)=false:=M;by_cases c:a<0
 . have r:decide (a<0)=true:=eT;exact sk
 have r:decide (a<0)=false:=M;by_cases f:(g:Int)<a
 . have s:decide ((g:Int)<a)=true:=lS;exact sk
 have s:decide ((g:Int)<a)=false:=M;exact sk
def acn (l e:Nat)(b:P)(n:aS b)(a c:Nat)(h:a+c<=b.o.length)(d:D)(k:Hid (ap d l e b)):
 O 251 #[I l,j a,j c] (.tuple #[.string (ji b.o a c),j 0]) d:=by
 have t:=k.out.V8;have f:=n.o;have H:decide ((a:Int)<0)=false:=bL;have J:decide ((c:Int)<0)=false:=bL;have A:decide ((b.o.length:Int)< (c:Int))=false:=M;have C:decide ((b.o.length:Int)-c< (a:Int))=false:=M;have v:∃g,(∀d,(Instr.slice 64 (.slice (some ⟨e,0,none⟩) b.o.length b.o.length) (some (.int .i64 (a:Int))) (some (.int .i64 ((a:Int)+c))) none).run prog d=.ok (.slice (some ⟨e,g,none⟩) c (b.o.length-a)) d)/\(c=0\/g=a):=by
  have f:∀d,(Instr.slice 64 (.slice (some ⟨e,0,none⟩) b.o.length b.o.length) (some (.int .i64 (a:Int))) (some (.int .i64 ((a:Int)+c))) none).run prog d=.ok (.slice (if b.o.length=a then some ⟨e,0,none⟩else some ⟨e,a,none⟩) c (b.o.length-a)) d:=by
   intro d;have hu:prog.underlying 64=some (.slice (prog.elem 64)):=gX;have h:=run_slice_lh (P:=prog) d 64 (some ⟨e,0,none⟩) b.o.length b.o.length hu .i64 .i64 (a:Int) ((a:Int)+c) m m m;rw[h];have x:(_root_.Go.sizeOf (prog.elem 64)).run prog d=.ok 1 d:=gX;rw[x];simp only[Result.andThen,sliced];rw[show((a:Int)).toNat=a by omega,show((a:Int)+c).toNat=a+c by omega,oO,gQ,show(⟨e,0,none⟩:Addr).add a=⟨e,a,none⟩by(simp[Addr.add];intro h;exact h.symm),show a+c-a=c by omega]
  by_cases o:b.o.length=a
  . exact z1
  . exact z6
 obtain⟨g,w,s⟩:=v;have r:(convert 64 9 (.slice (some ⟨e,g,none⟩) c (b.o.length-a))).run prog d=.ok (.string (ji b.o a c)) d:=by
  refine um d 64 5 gP oD e g c (b.o.length-a) _ ad (fun i u=>?_) 9 h5;rcases s with G|rfl
  . omega
  . rw[k.out.o (g+i) (by omega)];simp[List.getD,rg,List.getElem?_take,oK,u,fa (show g+i<b.o.length by omega)]
 obtain⟨F,q⟩:=y (ji b.o a c);rw[<-q]at r|-;clear q s;obtain⟨E,p⟩:=y (b.o.length);rw[<-p]at t f h A C w r;clear p k n;exact sk
def jf (a:Int):Bool:=if decide (800<=a)=true then(if decide (a<832)=true then decide (3<=a.tmod 32)else(if decide (3<=a.tmod 32)=true then(if decide (a.tdiv 32=88)=true then true else if decide (a.tdiv 32=92)=true then true else if decide (a.tdiv 32=96)=true then true else decide (a.tdiv 32=100))else false))else(if decide (3<=a.tmod 32)=true then(if decide (a.tdiv 32=88)=true then true else if decide (a.tdiv 32=92)=true then true else if decide (a.tdiv 32=96)=true then true else decide (a.tdiv 32=100))else false)
def VS (a:Int)(c:-9223372036854775808<=a)(d:a<=9223372036854775807):-9223372036854775808<=a.tdiv 32/\a.tdiv 32<=9223372036854775807:=by
 have b:=yI a 32;have e:(a.tdiv 32).natAbs<=a.natAbs/32:=by rw[b];exact aB _
 omega
def adB (b:Int)(s:-9223372036854775808<=b)(t:b<=9223372036854775807)(w:D):
 O 324 #[j b] (.bool (jf b)) w:=by
 unfold jf;have o:=VS b s t;obtain⟨v,u⟩:=fG (b.tmod 32);obtain⟨a,hd⟩:=fG (b.tdiv 32);rw[hd]at o;rw[u,hd];obtain⟨g,p⟩:=fG (decide (800<=b));obtain⟨h,q⟩:=fG (decide (b<832));obtain⟨i,r⟩:=fG (decide (3<=v));have f4:(a==88)=decide (a=88):=gW;have f5:(a==92)=decide (a=92):=gW;have f6:(a==96)=decide (a=96):=gW;have f7:(a==100)=decide (a=100):=gW;obtain⟨k,c⟩:=y (decide (a=88));obtain⟨l,d⟩:=y (decide (a=92));obtain⟨m,e⟩:=y (decide (a=96));obtain⟨n,f⟩:=y (decide (a=100));rw[p,q,r];rw[<-c]at f4|-;rw[<-d]at f5|-;rw[<-e]at f6|-;rw[<-f]at f7|-;clear c d e f;cases g<;>cases i<;>cases h<;> (try(cases k<;> (try(cases l<;> (try(cases m<;> (try cases n)))))));all_goals
  go_enter func324,ntmps324;exact cm
def jS :List Int:=[256,260,261,262,320,321,322,323,324,384,768,769,770,771,772,773,774,800,832,833,834,835,836,2816,2818,2944,2946,3072,3073,3074,3200,3201,3202,3857,3858,3859,3860]
def eW (a:Int):Bool:=if a∈jS then true else jf a
def x9 (a:Int)(e:-9223372036854775808<=a)(f:a<=9223372036854775807)(Z:D):
 O 252 #[j a] (.bool (eW a)) Z:=by
 have d:=l (adB a e f Z);by_cases b:a∈jS
 . have c:eW a=true:=by unfold eW;rw[B b]
   rw[c];clear c d e f;unfold jS at b;simp only[dB,eR,eS]at b;rcases b with rfl|rfl|rfl|rfl|rfl|rfl|rfl|rfl|rfl|rfl|rfl|rfl|rfl|rfl|rfl|rfl|rfl|rfl|rfl|rfl|rfl|rfl|rfl|rfl|rfl|rfl|rfl|rfl|rfl|rfl|rfl|rfl|rfl|rfl|rfl|rfl|rfl;all_goals
    go_enter func252,ntmps252;exact cm
 . have c:eW a=jf a:=by unfold eW;rw[z b]
   rw[c];obtain⟨aa,g⟩:=y (jf a);rw[<-g]at d|-;clear c g;unfold jS at b;simp only[dB,eR,eS,gh]at b;obtain⟨h,i,v,K,T,U,V,W,X,Y,k,m,n,o,p,q,r,s,t,u,w,x,A,C,E,F,G,H,I,J,L,M,N,P,Q,R,S⟩:=b;have ab:(a==256)=false:=by simp[h]
   have ac:(a==260)=false:=by simp[i]
   have an:(a==261)=false:=by simp[v]
   have aA:(a==262)=false:=by simp[K]
   have aI:(a==320)=false:=by simp[T]
   have aJ:(a==321)=false:=by simp[U]
   have aK:(a==322)=false:=by simp[V]
   have aL:(a==323)=false:=by simp[W]
   have aM:(a==324)=false:=by simp[X]
   have aN:(a==384)=false:=by simp[Y]
   have ad:(a==768)=false:=by simp[k]
   have ae:(a==769)=false:=by simp[m]
   have af:(a==770)=false:=by simp[n]
   have ag:(a==771)=false:=by simp[o]
   have ah:(a==772)=false:=by simp[p]
   have ai:(a==773)=false:=by simp[q]
   have aj:(a==774)=false:=by simp[r]
   have ak:(a==800)=false:=by simp[s]
   have al:(a==832)=false:=by simp[t]
   have am:(a==833)=false:=by simp[u]
   have ao:(a==834)=false:=by simp[w]
   have ap:(a==835)=false:=by simp[x]
   have aq:(a==836)=false:=by simp[A]
   have ar:(a==2816)=false:=by simp[C]
   have au:(a==2818)=false:=by simp[E]
   have av:(a==2944)=false:=by simp[F]
   have aw:(a==2946)=false:=by simp[G]
   have ax:(a==3072)=false:=by simp[H]
   have ay:(a==3073)=false:=by simp[I]
   have az:(a==3074)=false:=by simp[J]
   have aB:(a==3200)=false:=by simp[L]
   have aC:(a==3201)=false:=by simp[M]
   have aD:(a==3202)=false:=by simp[N]
   have aE:(a==3857)=false:=by simp[P]
   have aF:(a==3858)=false:=by simp[Q]
   have aG:(a==3859)=false:=by simp[R]
   have aH:(a==3860)=false:=by simp[S]
   clear h i v K T U V W X Y k m n o p q r s t u w x A C E F G H I J L M N P Q R S;go_enter func252,ntmps252;go_wp2_with fail;refine d.out.mono ?_;exact ex
namespace u
def bp (a:Nat):List L:=(Nm.name a).data.toList
def c8 (b:List L):Nat->Nat->Nat×Nat
 |0,_=>(0,0)
 |c+1,a=>if b=bp a then(a,4)else if b=99::46::bp a then(a,2)else c8 b c (a+1)
def bj (a:List L):Nat×Nat:=if a=bp 71 then(71,4)else if a=bp 72 then(72,2)else c8 a 70 1
end u
def Te :((List.range 73).all fun a=>decide ((Nm.name a).size<=20))=true:=by decide+kernel
def n1 (a:Nat)(b:a<=72):(Nm.name a).size<=20:=by
 have:=cX.1 Te a ad;rwa[cA]at this
def he (a:K):(⟨a.data.toList.toArray⟩:K)=a:=by cases a;simp
def xS (a:Nat)(b:a<=72)(c:D):(Op.stringOp .add ⟨#[99,46]⟩ (Nm.name a)).run prog c=.ok (u.aG (99::46::u.bp a)) c:=by
 refine ea (a:=⟨#[99,46]⟩) (b:=Nm.name a) (c:=⟨(99::46::u.bp a).toArray⟩) ?_ (by have:=n1 a b;have d:(⟨#[99,46]⟩:K).size=2:=rfl;rw[d];omega) c;have b:=hc [99,46] (Nm.name a).data.toList;rw[he]at b;exact b
def wp (a:Nat)(e:a<=72)(f:D):
 O 214 #[j a] (u.aG (99::46::u.bp a)) f:=by
 obtain⟨h,b⟩:=y (Nm.name a);have d:=xS a e;rw[<-b]at d;have c:=l b;clear b;go_enter func214,ntmps214;go_wp2_with(go_at_call 212;refine(jP a _).mono ?_;rintro i g ⟨rfl,rfl⟩;rw[<-c.out]);exact lR
def sT (b a:K):(b.toList==a.toList)=decide (b.data.toList=a.data.toList):=by
 rw[mP,mP,dY];simp
def Bv (a:K)(J:D):
 O 221 #[.string a] (.tuple #[j (u.bj a.data.toList).1,j (u.bj a.data.toList).2]) J:=by
 obtain⟨o,f⟩:=y (u.bj a.data.toList);rw[<-f];unfold u.bj at f;obtain⟨G,r⟩:=y (Nm.name 71);obtain⟨H,s⟩:=y (Nm.name 72);have h:=sT a G;have d:=sT a H;rw[r]at h;rw[s]at d;change _=decide (a.data.toList=u.bp 71)at h;change _=decide (a.data.toList=u.bp 72)at d;rw[<-r]at h;rw[<-s]at d;have q:=l r;have t:=l s;clear r s;by_cases c1:a.data.toList=u.bp 71
 . rw[B c1]at f;rw[bc c1]at h;subst f;clear c1 d;go_enter func221,ntmps221;go_wp2_with(go_at_call 212;refine(jP 71 _).mono ?_;rintro n k ⟨rfl,rfl⟩;rw[<-q.out]);exact su
 . rw[z c1]at f;rw[aU c1]at h;by_cases c2:a.data.toList=u.bp 72
   . rw[B c2]at f;rw[bc c2]at d;subst f;clear c1 c2;go_enter func221,ntmps221;go_wp2_with(go_at_call 212;refine(jP _ _).mono ?_;rintro n k ⟨rfl,rfl⟩;first|rw[<-q.out]|rw[<-t.out]);exact su
   . rw[z c2]at f;rw[aU c2]at d;have c:=l f;clear c1 c2 f;go_enter func221,ntmps221;go_wp2_with(go_at_call 212;refine(jP _ _).mono ?_;rintro n k ⟨rfl,rfl⟩;first|rw[<-q.out]|rw[<-t.out]);clear h d q t;go_loop [4] (fun w=>∃i:Nat,1<=i/\i<=71/\w=j i/\Hid (o=u.c8 a.data.toList (71-i) i)) (fun w=>71- (intOf w).toNat);case atStart=>exact⟨1,by omega,by omega,rfl,c⟩
     case round=>
      obtain⟨i,N,M,rfl,b⟩:=hrel;by_cases L:i<71
      . obtain⟨I,x⟩:=y (Nm.name i:K);obtain⟨F,A⟩:=y (⟨(99::46::u.bp i).toArray⟩:K);have C:u.aG (99::46::u.bp i)=.string F:=by rw[A];rfl
        have h:(a.toList==I.toList)=decide (a.data.toList=u.bp i):=by rw[x];exact sT a _
        have d:=mb a F _ A;have g:o=if a.data.toList=u.bp i then(i,4)else if a.data.toList=99::46::u.bp i then(i,2)else u.c8 a.data.toList (71- (i+1)) (i+1):=by
         rw[b.out,show 71-i=(71- (i+1))+1 by omega];rfl
        have v:=l x;have E:=l C;clear x A C;by_cases c1:a.data.toList=u.bp i
        . rw[B c1]at g;rw[bc c1]at h;have e:=l g;clear g b c d c1;go_wp2_with(go_at_call 212;refine(jP i _).mono ?_;rintro n k ⟨rfl,rfl⟩;rw[<-v.out]);exact vZ
        . rw[z c1]at g;rw[aU c1]at h;by_cases c2:a.data.toList=99::46::u.bp i
          . rw[B c2]at g;rw[bc c2]at d;have e:=l g;clear g b c c1 c2;go_wp2_with(first|(go_at_call 212;refine(jP i _).mono ?_;rintro n k ⟨rfl,rfl⟩;rw[<-v.out])|(go_at_call 214;refine(wp i m _).mono ?_;rintro n k ⟨rfl,rfl⟩;rw[E.out]));exact vZ
          . rw[z c2]at g;rw[aU c2]at d;have e:=l g;clear g b c c1 c2;go_wp2_with(first|(go_at_call 212;refine(jP i _).mono ?_;rintro n k ⟨rfl,rfl⟩;rw[<-v.out])|(go_at_call 214;refine(wp i m _).mono ?_;rintro n k ⟨rfl,rfl⟩;rw[E.out]));go_round;case rel=>exact⟨i+1,by omega,by omega,by go_num,e⟩
            case measure=>exact a4
      . obtain rfl:i=71:=by omega
        exact Mw
namespace u
def jq (b:List L):Nat->Nat->Nat×Nat
 |0,_=>(0,0)
 |c+1,a=>if b=bp a then(a,if a=72 then 2 else 4)else if b=99::46::bp a/\a<=70 then(a,2)else jq b c (a+1)
end u
theorem Fw (c:List L):∀(b a:Nat),1<=a->a+b=71->u.jq c (b+2) a=if u.c8 c b a=(0,0)then u.jq c 2 71 else u.c8 c b a
 |0,a,f,d=>by
  obtain rfl:a=71:=by omega
  rw[show u.c8 c 0 71=(0,0)from rfl,B rfl]
 |b+1,a,f,d=>by
  have e:=Fw c b (a+1) (by omega) (by omega)
  rw[show b+1+2=(b+2)+1 by omega]
  simp only[u.jq,u.c8]at e|-
  by_cases c1:c=u.bp a
  . rw[B c1,B c1,z (show ¬a=72 by omega),z (by simp)]
  . rw[z c1,z c1]
    by_cases c2:c=99::46::u.bp a
    . rw[B ⟨c2,by omega⟩,B c2,z (by simp)]
    . rw[z (fun d=>c2 d.1),z c2,e]
def aeS :u.c8 (u.bp 71) 70 1=(0,0):=by decide+kernel
def aeT :u.c8 (u.bp 72) 70 1=(0,0):=by decide+kernel
def aeU (a:List L):u.jq a 72 1=u.bj a:=by
 rw[Fw a 70 1 (by omega) (by omega)];unfold u.bj;have b:u.jq a 2 71=if a=u.bp 71 then(71,4)else if a=u.bp 72 then(72,2)else(0,0):=by
  simp[u.jq]
 rw[b];by_cases c1:a=u.bp 71
 . rw[B c1,B c1,c1,aeS,B rfl]
 . rw[z c1,z c1];by_cases c2:a=u.bp 72
   . rw[B c2,B c2,c2,aeT,B rfl]
   . rw[z c2,z c2];by_cases c3:u.c8 a 70 1=(0,0)
     . rw[B c3,c3]
     . rw[z c3]
def aaz (a:K)(J:D):
 O 234 #[.string a] (.tuple #[j (u.bj a.data.toList).1,j (u.bj a.data.toList).2]) J:=by
 rw[<-aeU];obtain⟨o,r⟩:=y (u.jq a.data.toList 72 1);rw[<-r];have c:=l r;clear r;go_enter func234,ntmps234;go_wp2;go_loop [4,5] (fun G n=>∃i:Nat,1<=i/\i<=73/\n=j i/\(i<=72->G=j 4)/\(∃t,G=j t)/\Hid (o=u.jq a.data.toList (73-i) i)) (fun _ n=>73- (intOf n).toNat);case atStart=>exact⟨1,by omega,by omega,rfl,fun _=>rfl,⟨_,rfl⟩,c⟩
 case round=>
  obtain⟨i,Q,P,rfl,F,⟨t,rfl⟩,b⟩:=hrel;by_cases N:i<73
  . have C:=F m;obtain rfl:t=4:=by cases C;rfl
    clear F C;obtain⟨H,g⟩:=y (Nm.name i:K);obtain⟨k,s⟩:=y (⟨(99::46::u.bp i).toArray⟩:K);have A:u.aG (99::46::u.bp i)=.string k:=by rw[s];rfl
    have w:(a.toList==H.toList)=decide (a.data.toList=u.bp i):=by rw[g];exact sT a _
    have h:=mb a k _ s;have I:=xS i m;rw[A,<-g]at I;have d:o=if a.data.toList=u.bp i then(i,if i=72 then 2 else 4)else if a.data.toList=99::46::u.bp i/\i<=70 then(i,2)else u.jq a.data.toList (73- (i+1)) (i+1):=by
     rw[b.out,show 73-i=(73- (i+1))+1 by omega];rfl
    have v:=l g;clear g s A;have x:((i:Int)==72)=decide (i=72):=ik;by_cases f:i=72
    . rw[bc f]at x;by_cases c1:a.data.toList=u.bp i
      . rw[B c1,B f]at d;exact Mx
      . rw[z c1,z (by omega)]at d;rw[aU c1]at w;have e:=l d;have E:decide ((i:Int)<=70)=false:=M;cases L:(a.toList==k.toList)
        . exact My
        . exact My
    . rw[aU f]at x;by_cases c1:a.data.toList=u.bp i
      . rw[B c1,z f]at d;exact Mx
      . rw[z c1]at d;rw[aU c1]at w;by_cases c2:a.data.toList=99::46::u.bp i
        . rw[bc c2]at h;by_cases c3:i<=70
          . rw[B ⟨c2,c3⟩]at d;have e:=l d;have E:decide ((i:Int)<=70)=true:=M;clear d b c c1 f c2;exact Mz
          . rw[z (fun q=>c3 q.2)]at d;have e:=l d;have E:decide ((i:Int)<=70)=false:=M;exact MA
        . rw[z (fun q=>c2 q.1)]at d;rw[aU c2]at h;have e:=l d;exact MA
  . obtain rfl:i=73:=by omega
    exact Mw
end Go.Proofs.YtmlgonbhoknoiabGreatDoor
