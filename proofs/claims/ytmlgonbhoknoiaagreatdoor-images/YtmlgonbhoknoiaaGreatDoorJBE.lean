import Derived.Test.YtmlgonbhoknoiaaGreatDoorJBB
set_option maxHeartbeats 8000000
set_option maxRecDepth 100000
set_option linter.all false
namespace Go.Proofs.YtmlgonbhoknoiaaGreatDoor
open Go.RowKit Go.Proofs.Tryz
def iu (b a:Nat):Nat×Nat:=if b+1=4294967296 then(0,(a+1)%4294967296)else(b+1,a)
def kM (a:Q):Q:=if(decide (a.held%2=0)&&!a.W6)=true then{a with Wa:=(iu a.Wa a.Wg).1,Wg:=(iu a.Wa a.Wg).2}else a
def kN (a:Q)(r:Bool):Q:=if(r&&decide (a.held/4%2=0)&&!a.W7)=true then{a with ret:=(iu a.ret a.We).1,We:=(iu a.ret a.We).2}else a
def c6 (a:Q)(r:Bool):Q:=kN (kM a) r
def sy {a:Q}(b:(decide (a.held%2=0)&&!a.W6)=false):kM a=a:=by unfold kM;rw[b];rfl
def sx {a:Q}(b:(decide (a.held%2=0)&&!a.W6)=true)(c:¬a.Wa+1=4294967296):kM a={a with Wa:=a.Wa+1}:=by unfold kM iu;rw[B b,z c]
def sz {a:Q}(b:(decide (a.held%2=0)&&!a.W6)=true)(c:a.Wa+1=4294967296):kM a={a with Wa:=0,Wg:=(a.Wg+1)%4294967296}:=by unfold kM iu;rw[B b,B c]
def nH {C:Q}{r:Bool}(a:(r&&decide (C.held/4%2=0)&&!C.W7)=false):kN C r=C:=by unfold kN;rw[a];rfl
def wv {C:Q}{r:Bool}(a:(r&&decide (C.held/4%2=0)&&!C.W7)=true)(b:¬C.ret+1=4294967296):kN C r={C with ret:=C.ret+1}:=by unfold kN iu;rw[B a,z b]
def ww {C:Q}{r:Bool}(a:(r&&decide (C.held/4%2=0)&&!C.W7)=true)(b:C.ret+1=4294967296):kN C r={C with ret:=0,We:=(C.We+1)%4294967296}:=by unfold kN iu;rw[B a,B b]
def acr (z L:Nat)(a:Q)(u:ay a)(r:Bool)(n:D)(d:Hid (T n z L a)):
 Calls prog 237 #[I z,.bool r] n fun Z K=>Z=.returned (.tuple #[])/\T K z L (c6 a r)/\Kept [z] n K:=by
 have M:=u.held;have ab:=u.Wa;have ac:=u.Wg;have ad:=u.ret;have ae:=u.We;have af:=d.out.Ya;have ag:=d.out.Xk;have ah:=d.out.Xl;have ai:=d.out.Xq;have aj:=d.out.XJ;have X:=d.out.XC;have Y:=d.out.Xm;obtain⟨-,ak,al⟩:=d.out;have V:Hid (∀n,O 315 #[j a.held,j 0] (j ((a.held%2:Nat):Int)) n):=l (fun n=>by
  have N:=e7 a.held 0 M m n;rw[lq,ou]at N;exact N)
 have W:Hid (∀n,O 315 #[j a.held,j 2] (j ((a.held/4%2:Nat):Int)) n):=l (fun n=>e7 a.held 2 M m n);have S:(((a.held%2:Nat):Int)==0)=decide (a.held%2=0):=ij;have U:(((a.held/4%2:Nat):Int)==0)=decide (a.held/4%2=0):=ij;obtain⟨aa,C⟩:=y (decide (a.held%2=0));obtain⟨H,E⟩:=y (decide (a.held/4%2=0));obtain⟨wc,A⟩:=y (a.W6);obtain⟨wi,B⟩:=y (a.W7);rw[<-C]at S;rw[<-E]at U;rw[<-A]at X;rw[<-B]at Y;have t:=l (cZ C (cZ E (cZ A B)));clear C E A B;obtain⟨am,P⟩:=y (a.held%2);obtain⟨an,R⟩:=y (a.held/4%2);rw[<-P]at V S;rw[<-R]at W U;clear P R u;have ao:((a.Wg:Int)+1).tmod 4294967296=(((a.Wg+1)%4294967296:Nat):Int):=fc;have ap:((a.We:Int)+1).tmod 4294967296=(((a.We+1)%4294967296:Nat):Int):=fc;cases aa
 . exact K9
 . cases wc
   . by_cases p:a.Wa+1=4294967296
     . cases r
       . have e:(decide (a.held%2=0)&&!a.W6)=true:=ib;have f1:=sz e p;have f:(false&&decide (a.held/4%2=0)&&!a.W7)=false:=ic;have f2:c6 a false={a with Wa:=0,Wg:=(a.Wg+1)%4294967296}:=by
          unfold c6;rw[f1];exact nH (C:={a with Wa:=0,Wg:=(a.Wg+1)%4294967296}) f
         exact La
       . cases H
         . exact Lb
         . cases wi
           . by_cases o:a.ret+1=4294967296
             . have e:(decide (a.held%2=0)&&!a.W6)=true:=ib;have f1:=sz e p;have f:(true&&decide (a.held/4%2=0)&&!a.W7)=true:=ic;have f2:c6 a true={{a with Wa:=0,Wg:=(a.Wg+1)%4294967296}with ret:=0,We:=(a.We+1)%4294967296}:=by
                unfold c6;rw[f1];exact ww (C:={a with Wa:=0,Wg:=(a.Wg+1)%4294967296}) f o
               rw[f2];have b:=l (((((d.out.set (C':={a with Wa:=0}) 32 (j 0) rfl m).set (C':={a with Wa:=0,Wg:=(a.Wg+1)%4294967296}) 33 (j (((a.Wg+1)%4294967296:Nat):Int)) rfl m).set (C':={{a with Wa:=0,Wg:=(a.Wg+1)%4294967296}with ret:=0}) 34 (j 0) rfl m).set (C':={{a with Wa:=0,Wg:=(a.Wg+1)%4294967296}with ret:=0,We:=(a.We+1)%4294967296}) 35 (j (((a.We+1)%4294967296:Nat):Int)) rfl m));have c:=l (((((((d.out.set (C':={a with Wa:=a.Wa+1}) 32 (j ((a.Wa+1:Nat):Int)) rfl m).set (C':={a with Wa:=0}) 32 (j 0) rfl m).set (C':={a with Wa:=0,Wg:=(a.Wg+1)%4294967296}) 33 (j (((a.Wg+1)%4294967296:Nat):Int)) rfl m).set (C':={{a with Wa:=0,Wg:=(a.Wg+1)%4294967296}with ret:=a.ret+1}) 34 (j ((a.ret+1:Nat):Int)) rfl m).set (C':={{a with Wa:=0,Wg:=(a.Wg+1)%4294967296}with ret:=0}) 34 (j 0) rfl m).set (C':={{a with Wa:=0,Wg:=(a.Wg+1)%4294967296}with ret:=0,We:=(a.We+1)%4294967296}) 35 (j (((a.We+1)%4294967296:Nat):Int)) rfl m));have g:((a.Wa+1:Nat):Int)=(a.Wa:Int)+1:=J;have h:((a.ret+1:Nat):Int)=(a.ret:Int)+1:=J;have i:(((a.Wg+1)%4294967296:Nat):Int)=((a.Wg:Int)+1)%4294967296:=J;have k:(((a.We+1)%4294967296:Nat):Int)=((a.We:Int)+1)%4294967296:=J;try rw[i]at b
               try rw[i]at c
               try rw[k]at b
               try rw[k]at c
               try rw[g]at b
               try rw[g]at c
               try rw[h]at b
               try rw[h]at c
               have G:((a.Wa:Int)+1==4294967296)=true:=jz;exact Lc
             . have e:(decide (a.held%2=0)&&!a.W6)=true:=ib;have f1:=sz e p;have f:(true&&decide (a.held/4%2=0)&&!a.W7)=true:=ic;have f2:c6 a true={{a with Wa:=0,Wg:=(a.Wg+1)%4294967296}with ret:=a.ret+1}:=by
                unfold c6;rw[f1];exact wv (C:={a with Wa:=0,Wg:=(a.Wg+1)%4294967296}) f o
               rw[f2];have b:=l ((((d.out.set (C':={a with Wa:=0}) 32 (j 0) rfl m).set (C':={a with Wa:=0,Wg:=(a.Wg+1)%4294967296}) 33 (j (((a.Wg+1)%4294967296:Nat):Int)) rfl m).set (C':={{a with Wa:=0,Wg:=(a.Wg+1)%4294967296}with ret:=a.ret+1}) 34 (j ((a.ret+1:Nat):Int)) rfl m));have c:=l (((((d.out.set (C':={a with Wa:=a.Wa+1}) 32 (j ((a.Wa+1:Nat):Int)) rfl m).set (C':={a with Wa:=0}) 32 (j 0) rfl m).set (C':={a with Wa:=0,Wg:=(a.Wg+1)%4294967296}) 33 (j (((a.Wg+1)%4294967296:Nat):Int)) rfl m).set (C':={{a with Wa:=0,Wg:=(a.Wg+1)%4294967296}with ret:=a.ret+1}) 34 (j ((a.ret+1:Nat):Int)) rfl m));have g:((a.Wa+1:Nat):Int)=(a.Wa:Int)+1:=J;have h:((a.ret+1:Nat):Int)=(a.ret:Int)+1:=J;have i:(((a.Wg+1)%4294967296:Nat):Int)=((a.Wg:Int)+1)%4294967296:=J;have k:(((a.We+1)%4294967296:Nat):Int)=((a.We:Int)+1)%4294967296:=J;try rw[i]at b
               try rw[i]at c
               try rw[k]at b
               try rw[k]at c
               try rw[g]at b
               try rw[g]at c
               try rw[h]at b
               try rw[h]at c
               have G:((a.Wa:Int)+1==4294967296)=true:=jz;exact Ld
           . exact Lb
     . cases r
       . have e:(decide (a.held%2=0)&&!a.W6)=true:=ib;have f1:=sx e p;have f:(false&&decide (a.held/4%2=0)&&!a.W7)=false:=ic;have f2:c6 a false={a with Wa:=a.Wa+1}:=by
          unfold c6;rw[f1];exact nH (C:={a with Wa:=a.Wa+1}) f
         exact Le
       . cases H
         . exact Lf
         . cases wi
           . by_cases o:a.ret+1=4294967296
             . have e:(decide (a.held%2=0)&&!a.W6)=true:=ib;have f1:=sx e p;have f:(true&&decide (a.held/4%2=0)&&!a.W7)=true:=ic;have f2:c6 a true={{a with Wa:=a.Wa+1}with ret:=0,We:=(a.We+1)%4294967296}:=by
                unfold c6;rw[f1];exact ww (C:={a with Wa:=a.Wa+1}) f o
               rw[f2];have b:=l ((((d.out.set (C':={a with Wa:=a.Wa+1}) 32 (j ((a.Wa+1:Nat):Int)) rfl m).set (C':={{a with Wa:=a.Wa+1}with ret:=0}) 34 (j 0) rfl m).set (C':={{a with Wa:=a.Wa+1}with ret:=0,We:=(a.We+1)%4294967296}) 35 (j (((a.We+1)%4294967296:Nat):Int)) rfl m));have c:=l (((((d.out.set (C':={a with Wa:=a.Wa+1}) 32 (j ((a.Wa+1:Nat):Int)) rfl m).set (C':={{a with Wa:=a.Wa+1}with ret:=a.ret+1}) 34 (j ((a.ret+1:Nat):Int)) rfl m).set (C':={{a with Wa:=a.Wa+1}with ret:=0}) 34 (j 0) rfl m).set (C':={{a with Wa:=a.Wa+1}with ret:=0,We:=(a.We+1)%4294967296}) 35 (j (((a.We+1)%4294967296:Nat):Int)) rfl m));have g:((a.Wa+1:Nat):Int)=(a.Wa:Int)+1:=J;have h:((a.ret+1:Nat):Int)=(a.ret:Int)+1:=J;have i:(((a.Wg+1)%4294967296:Nat):Int)=((a.Wg:Int)+1)%4294967296:=J;have k:(((a.We+1)%4294967296:Nat):Int)=((a.We:Int)+1)%4294967296:=J;try rw[i]at b
               try rw[i]at c
               try rw[k]at b
               try rw[k]at c
               try rw[g]at b
               try rw[g]at c
               try rw[h]at b
               try rw[h]at c
               have G:((a.Wa:Int)+1==4294967296)=false:=gV;exact Lc
             . have e:(decide (a.held%2=0)&&!a.W6)=true:=ib;have f1:=sx e p;have f:(true&&decide (a.held/4%2=0)&&!a.W7)=true:=ic;have f2:c6 a true={{a with Wa:=a.Wa+1}with ret:=a.ret+1}:=by
                unfold c6;rw[f1];exact wv (C:={a with Wa:=a.Wa+1}) f o
               rw[f2];have b:=l (((d.out.set (C':={a with Wa:=a.Wa+1}) 32 (j ((a.Wa+1:Nat):Int)) rfl m).set (C':={{a with Wa:=a.Wa+1}with ret:=a.ret+1}) 34 (j ((a.ret+1:Nat):Int)) rfl m));have c:=l (((d.out.set (C':={a with Wa:=a.Wa+1}) 32 (j ((a.Wa+1:Nat):Int)) rfl m).set (C':={{a with Wa:=a.Wa+1}with ret:=a.ret+1}) 34 (j ((a.ret+1:Nat):Int)) rfl m));have g:((a.Wa+1:Nat):Int)=(a.Wa:Int)+1:=J;have h:((a.ret+1:Nat):Int)=(a.ret:Int)+1:=J;have i:(((a.Wg+1)%4294967296:Nat):Int)=((a.Wg:Int)+1)%4294967296:=J;have k:(((a.We+1)%4294967296:Nat):Int)=((a.We:Int)+1)%4294967296:=J;try rw[i]at b
               try rw[i]at c
               try rw[k]at b
               try rw[k]at c
               try rw[g]at b
               try rw[g]at c
               try rw[h]at b
               try rw[h]at c
               have G:((a.Wa:Int)+1==4294967296)=false:=gV;exact Ld
           . exact Lf
   . exact K9
section
attribute [local go_sem ↓] Go.wp_at_zero Go.wp_at_succ
def E.XU {d a c b}(e:E d a c b):E (d.setCell ⟨a,35,none⟩ (.bool false)) a c {b with waits:=false}:=e.set 35 _ rfl rfl (by omega)
def aH (a:N):N:={a with waits:=false}
def kn (a:(ak× (Int×Nat))×N):(Int×Int×Int)×N:=
 if a.1.2.1=-1 then((0,0,cN a.1.1),a.2)else((1,a.1.2.1,0),iH a.2 a.1.2.1.toNat a.1.2.2)
def bW (a:N):(Int×Int×Int)×N:=
 if(a.waits&&decide (b2 a=0))=true then((3,0,0),a)
 else if cy (aH a)=-1 then kn (a9 (aH a))
 else((2,cy (aH a),0),iJ (aH a) (cy (aH a)).toNat)
def eE (b a:Int):Value:=.agg #[j b,j a]
def CB (a:Nat):-1<=eg a/\eg a<12:=by
 unfold eg;repeat' split
 all_goals omega
def p4 (a:N):-1<=cy a/\cy a<12:=by
 have b:=CB (aI (b2 a) a.c.V9);have c:=CB (b2 a&&&a.c.V9);unfold cy p2;split
 . exact b
 split
 . exact c
 . omega
def mH {a:N}(b:aj a):aj (aH a):={b with ok:={b.ok with}}
def si {a:N}(c:aj a):aj (bW a).2/\ -1<=(bW a).1.2.1/\(bW a).1.2.1<16:=by
 have d:=mH c;have e:=p4 (aH a);have b:=mk d;unfold bW;split
 . exact⟨c,co,co⟩
 split
 . unfold kn;split
   . exact⟨b.1,co,co⟩
   . exact⟨aay b.1 _ _ m b.2.1,b.2.2⟩
 . refine⟨aaK d _ m,?_,?_⟩<;>dsimp only<;>omega
def agi (d e:Nat)(c:N)(k:aj c)(h:c.waits=true)(i:b2 c=0)(f)(a:Hid (E f d e c)):
 an 38 #[I d] (.tuple #[eE 3 0,j 0]) [d,e] d e c f:=by
 have n:=k.ok;have u:=a.out.lt;have v:=a.out.Ww;have t:¬d=f.heap.size:=J;have o:Hid (E (f.alloc (.cells #[j 0,j 0] 46)) d e c):=b7;have p:=a.out.Xq;have g:=l (fun W q=>qS d e c n W q);simp only[i,h]at g p;unfold eE;clear n k a h i;go_enter func38,ntmps38;go_wp2_with fail;refine(g.out _ o).mono ?_;rintro w s ⟨rfl,b⟩;obtain⟨_,_,_,_,_,_,_,_,_,_,_,_⟩:av s f.heap.size 0 0:=ih;have r:=o.out.kept b;go_wp2_with fail;refine ac (v:=.tuple #[.agg #[j 3,j 0],j 0]) m1 rfl ⟨rfl,?_,?_⟩
 . repeat(first|(with_reducible exact r)|(with_reducible refine E.alloc ?_ _)|(with_reducible refine E.drew ?_)|(with_reducible refine E.other _ _ _ ?_ m m))
 . exact vx
def Vi (d:D)(a g b c:Nat)(h:Value)(f:¬a=b):(d.setCell ⟨b,g,none⟩ h).cell? ⟨a,c,none⟩=d.cell? ⟨a,c,none⟩:=
 b0 _ _ _ _ (by intro e;exact f (congrArg Addr.block e).symm)
def agl (c f:Nat)(a:N)(q:aj a)(p:a.waits=false)(s:¬cy (aH a)=-1)(g)(d:Hid (E g c f a)):
 an 38 #[I c] (.tuple #[eE 2 (cy (aH a)),j 0]) [c,f] c f (iJ (aH a) (cy (aH a)).toNat) g:=by
 have L:=d.out.lt;have M:=d.out.Ww;have D:¬c=g.heap.size:=J;have v:=d.out.Xq;have H:=d.out.Wb;have n:=l (d.out.XU.alloc (.cells #[j 0,j 0] 46));simp only[p]at v;have k:=mH q;have o:=l (fun W i=>oo c f (aH a) k.ok W i);have t:{a with waits:=false}=aH a:=rfl;have K:=p4 (aH a);obtain⟨h,w⟩:∃h:Nat,cy (aH a)=h:=⟨(cy (aH a)).toNat,by omega⟩;have u:=l (fun W i=>Fz c f (aH a) k.ok h m W i);simp only[w,ds]at o s|-;unfold eE;try simp only[t]at n
 obtain⟨G,r⟩:=y (aH a);simp only[<-r]at *;clear t r k s q;clear p;go_enter func38,ntmps38;go_wp2_with fail;refine(o.out _ n).mono ?_;rintro z A ⟨rfl,b⟩;have x:=l (n.out.kept b);obtain⟨_,_,_,_,_,_,_,_,_,_,_,_⟩:av A g.heap.size 0 0:=pq;go_wp2_with fail;refine(u.out _ x).mono ?_;rintro z B ⟨rfl,C,e⟩;obtain⟨_,_,_,_,_,_,_,_,_,_,_,_⟩:av B g.heap.size 0 0:=pr;go_wp2_with fail;refine ac (v:=.tuple #[.agg #[j 2,j h],j 0]) m1 rfl ⟨rfl,?_,?_⟩
 . exact LA
 . exact pD
def agf (c f:Nat)(a:N)(z:aj a)(x:a.waits=false)(C:cy (aH a)=-1)(D:¬(a9 (aH a)).1.2.1=-1)(g)(k:Hid (E g c f a)):
 an 38 #[I c] (.tuple #[eE 1 ((a9 (aH a)).1.2.1),j 0]) [c,f] c f (iH (a9 (aH a)).2 (a9 (aH a)).1.2.1.toNat (a9 (aH a)).1.2.2) g:=by
 have af:=k.out.lt;have ah:=k.out.Ww;have ab:¬c=g.heap.size:=J;have U:=k.out.Xq;have ae:=k.out.Wb;have r:=l (k.out.XU.alloc (.cells #[j 0,j 0] 46));simp only[x]at U;have o:=mH z;have v:=l (fun W i=>oo c f (aH a) o.ok W i);have G:{a with waits:=false}=aH a:=rfl;have p:=mk o;have n:=l (fun W i=>tI c f (aH a) o.ok W i);obtain⟨⟨⟨Q,w,q⟩,T⟩,A⟩:∃R,R=a9 (aH a):=⟨_,rfl⟩;simp only[<-A]at n p D|-;try dsimp only at n p D|-
 simp only[C]at v;obtain⟨d,V⟩:∃d:Nat,w=d:=⟨w.toNat,by omega⟩;subst V;have S:=l (fun W i=>Fy c f T p.1.ok d q m W i);simp only[ds]at|-;have aD:((d:Int)==-1)=false:=u1;obtain⟨L,M,O,P,H,K⟩:=Q;unfold ag at *;unfold aS at n;try dsimp only at *
 clear A p;unfold eE;try simp only[G]at r
 obtain⟨ad,B⟩:=y (aH a);simp only[<-B]at *;clear G B o C z;clear x;go_enter func38,ntmps38;go_wp2_with fail;refine(v.out _ r).mono ?_;rintro s aa ⟨rfl,b⟩;have X:=l (r.out.kept b);obtain⟨_,_,_,_,_,_,_,_,_,_,_,_⟩:av aa g.heap.size 0 0:=pq;go_wp2_with fail;refine(n.out _ X).mono ?_;rintro s t ⟨rfl,Y,e⟩;obtain⟨_,_,_,_,_,_,_,_,_,_,_,_⟩:av t g.heap.size 0 0:=pr;have Z:=l (((Y.alloc (.cells #[j L,j M,j O,j P,j H,j K] 53)).alloc (.cells #[j d,j q] 118)).alloc (.cells #[j d,j q] 118));go_wp2_with(go_at_call 83;refine(cd _ _ _).mono ?_;rintro s aE ⟨rfl,rfl⟩);refine(S.out _ Z).mono ?_;rintro s w3 ⟨rfl,u,h⟩;obtain⟨_,_,_,_,_,_,_,_,_,_,_,_⟩:av w3 g.heap.size 0 0:=vb;obtain⟨ai,ak,al,am,ao,ap,aq,ay,az,ar,aA,au,aB,aw,aC,ax⟩:a8 w3 t.heap.size L M O P H K:=vc;obtain⟨_,_,_,_,_,_,_,_,_,_,_,_⟩:av w3 (t.heap.size+1) d q:=vd;go_wp2_with fail;refine ac (v:=.tuple #[.agg #[j 1,j d],j 0]) m1 rfl ⟨rfl,?_,?_⟩
 . exact vB
 . exact r0
def agj (c g:Nat)(a:N)(A:aj a)(z:a.waits=false)(D:cy (aH a)=-1)(p:(a9 (aH a)).1.2.1=-1)(d)(f:Hid (E d c g a)):
 an 38 #[I c] (.tuple #[eE 0 0,j (cN (a9 (aH a)).1.1)]) [c,g] c g ((a9 (aH a)).2) d:=by
 have af:=f.out.lt;have ah:=f.out.Ww;have Z:¬c=d.heap.size:=J;have S:=f.out.Xq;have ae:=f.out.Wb;have r:=l (f.out.XU.alloc (.cells #[j 0,j 0] 46));simp only[z]at S;have k:=mH A;have x:=l (fun W o=>oo c g (aH a) k.ok W o);have G:{a with waits:=false}=aH a:=rfl;have q:=mk k;have i:=l (fun W o=>tI c g (aH a) k.ok W o);obtain⟨⟨⟨n,ad,t⟩,ab⟩,B⟩:∃R,R=a9 (aH a):=⟨_,rfl⟩;simp only[<-B]at i q p|-;try dsimp only at i q p|-
 simp only[D]at x;subst p;have w:=l (fun W=>Fj n W);obtain⟨Y,H⟩:=y (cN n);simp only[<-H]at w|-;clear H;obtain⟨M,O,P,Q,K,L⟩:=n;unfold ag at *;unfold aS at i;try dsimp only at *
 clear B q;unfold eE;try simp only[G]at r
 obtain⟨aa,C⟩:=y (aH a);simp only[<-C]at *;clear G C k D A;clear z;go_enter func38,ntmps38;go_wp2_with fail;refine(x.out _ r).mono ?_;rintro s X ⟨rfl,b⟩;have T:=l (r.out.kept b);obtain⟨_,_,_,_,_,_,_,_,_,_,_,_⟩:av X d.heap.size 0 0:=pq;go_wp2_with fail;refine(i.out _ T).mono ?_;rintro s v ⟨rfl,U,e⟩;obtain⟨_,_,_,_,_,_,_,_,_,_,_,_⟩:av v d.heap.size 0 0:=pr;have V:=l (((U.alloc (.cells #[j M,j O,j P,j Q,j K,j L] 53)).alloc (.cells #[j (-1),j t] 118)).alloc (.cells #[j (-1),j t] 118));go_wp2_with(go_at_call 83;refine(cd _ _ _).mono ?_;rintro s aD ⟨rfl,rfl⟩);refine(w.out _).mono ?_;rintro s w3 ⟨rfl,h⟩;have u:=V.out.kept h;obtain⟨_,_,_,_,_,_,_,_,_,_,_,_⟩:av w3 d.heap.size 0 0:=vb;obtain⟨ai,ak,al,am,ao,ap,aq,ay,az,ar,aA,au,aB,aw,aC,ax⟩:a8 w3 v.heap.size M O P Q K L:=vc;obtain⟨_,_,_,_,_,_,_,_,_,_,_,_⟩:av w3 (v.heap.size+1) (-1) t:=vd;go_wp2_with fail;refine ac (v:=.tuple #[.agg #[j 0,j 0],j Y]) m1 rfl ⟨rfl,?_,?_⟩
 . exact vB
 . exact r0
def agm (f g:Nat)(d:N)(o:aj d)(t:d.waits=true)(c:¬b2 d=0)(w:¬cy (aH d)=-1)(k)(a:Hid (E k f g d)):
 an 38 #[I f] (.tuple #[eE 2 (cy (aH d)),j 0]) [f,g] f g (iJ (aH d) (cy (aH d)).toNat) k:=by
 have v:=o.ok;have X:=a.out.lt;have Y:=a.out.Ww;have R:¬f=k.heap.size:=J;have z:Hid (E (k.alloc (.cells #[j 0,j 0] 46)) f g d):=b7;have G:=a.out.Xq;have r:=l (fun W h=>qS f g d v W h);obtain⟨M,x⟩:=y (b2 d);simp only[<-x]at r c;have Z:((M:Int)==0)=false:=eT;simp only[t]at G;have K:Hid (∀W,E W f g d->E (W.setCell ⟨f,35,none⟩ (.bool false)) f g (aH d)):=fun W h=>h.XU;have p:=mH o;have s:=l (fun W h=>oo f g (aH d) p.ok W h);have V:=p4 (aH d);obtain⟨n,H⟩:∃n:Nat,cy (aH d)=n:=⟨(cy (aH d)).toNat,by omega⟩;have D:=l (fun W h=>Fz f g (aH d) p.ok n m W h);simp only[H,ds]at s w|-;unfold eE;skip;obtain⟨S,u⟩:=y (aH d);simp only[<-u]at *;clear u p w v o;clear t c x;go_enter func38,ntmps38;go_wp2_with fail;refine(r.out _ z).mono ?_;rintro B O ⟨rfl,i⟩;obtain⟨_,_,_,_,_,_,_,_,_,_,_,_⟩:av O k.heap.size 0 0:=zp;have q:=z.out.kept i;have T:=q.Xq;have U:=q.Wb;have A:=l (K.out _ q);go_wp2_with fail;refine(s.out _ A).mono ?_;rintro B P ⟨rfl,b⟩;have L:=l (A.out.kept b);obtain⟨_,_,_,_,_,_,_,_,_,_,_,_⟩:av P k.heap.size 0 0:=pq;go_wp2_with fail;refine(D.out _ L).mono ?_;rintro B Q ⟨rfl,C,e⟩;obtain⟨_,_,_,_,_,_,_,_,_,_,_,_⟩:av Q k.heap.size 0 0:=pr;go_wp2_with fail;refine ac (v:=.tuple #[.agg #[j 2,j n],j 0]) m1 rfl ⟨rfl,?_,?_⟩
 . exact LA
 . repeat(first|(with_reducible exact Kept.refl _ _)|(with_reducible refine Kept.Xb ?_ _ _)|(with_reducible refine Kept.setCell ?_ (ci aL) _)|(with_reducible refine Kept.drew ?_)|(with_reducible refine Kept.drewN ?_ _)|(with_reducible refine Kept.alloc ?_ _)|(with_reducible refine Kept.trans ?_ (e.mono F))|(with_reducible refine Kept.trans ?_ (b.mono F))|(with_reducible refine Kept.trans ?_ (i.mono F)))
def agh (f g:Nat)(d:N)(v:aj d)(C:d.waits=true)(c:¬b2 d=0)(K:cy (aH d)=-1)(L:¬(a9 (aH d)).1.2.1=-1)(o)(a:Hid (E o f g d)):
 an 38 #[I f] (.tuple #[eE 1 ((a9 (aH d)).1.2.1),j 0]) [f,g] f g (iH (a9 (aH d)).2 (a9 (aH d)).1.2.1.toNat (a9 (aH d)).1.2.2) o:=by
 have H:=v.ok;have au:=a.out.lt;have aw:=a.out.Ww;have ao:¬f=o.heap.size:=J;have O:Hid (E (o.alloc (.cells #[j 0,j 0] 46)) f g d):=b7;have ab:=a.out.Xq;have z:=l (fun W k=>qS f g d H W k);obtain⟨ak,M⟩:=y (b2 d);simp only[<-M]at z c;have aQ:((ak:Int)==0)=false:=eT;simp only[C]at ab;have ae:Hid (∀W,E W f g d->E (W.setCell ⟨f,35,none⟩ (.bool false)) f g (aH d)):=fun W k=>k.XU;have q:=mH v;have A:=l (fun W k=>oo f g (aH d) q.ok W k);have r:=mk q;have p:=l (fun W k=>tI f g (aH d) q.ok W k);obtain⟨⟨⟨X,B,t⟩,aa⟩,D⟩:∃Y,Y=a9 (aH d):=⟨_,rfl⟩;simp only[<-D]at p r L|-;try dsimp only at p r L|-
 simp only[K]at A;obtain⟨n,ad⟩:∃n:Nat,B=n:=⟨B.toNat,by omega⟩;subst ad;have Z:=l (fun W k=>Fy f g aa r.1.ok n t m W k);simp only[ds]at|-;have aT:((n:Int)==-1)=false:=u1;obtain⟨S,T,U,V,Q,R⟩:=X;unfold ag at *;unfold aS at p;try dsimp only at *
 clear D r;unfold eE;skip;obtain⟨ap,G⟩:=y (aH d);simp only[<-G]at *;clear G q K H v;clear C c M;go_enter func38,ntmps38;go_wp2_with fail;refine(z.out _ O).mono ?_;rintro s al ⟨rfl,i⟩;obtain⟨_,_,_,_,_,_,_,_,_,_,_,_⟩:av al o.heap.size 0 0:=zp;have w:=O.out.kept i;have aq:=w.Xq;have ar:=w.Wb;have P:=l (ae.out _ w);go_wp2_with fail;refine(A.out _ P).mono ?_;rintro s am ⟨rfl,b⟩;have af:=l (P.out.kept b);obtain⟨_,_,_,_,_,_,_,_,_,_,_,_⟩:av am o.heap.size 0 0:=pq;go_wp2_with fail;refine(p.out _ af).mono ?_;rintro s x ⟨rfl,ah,e⟩;obtain⟨_,_,_,_,_,_,_,_,_,_,_,_⟩:av x o.heap.size 0 0:=pr;have ai:=l (((ah.alloc (.cells #[j S,j T,j U,j V,j Q,j R] 53)).alloc (.cells #[j n,j t] 118)).alloc (.cells #[j n,j t] 118));go_wp2_with(go_at_call 83;refine(cd _ _ _).mono ?_;rintro s aU ⟨rfl,rfl⟩);refine(Z.out _ ai).mono ?_;rintro s w3 ⟨rfl,u,h⟩;obtain⟨_,_,_,_,_,_,_,_,_,_,_,_⟩:av w3 o.heap.size 0 0:=vb;obtain⟨ax,ay,az,aA,aB,aC,aD,aJ,aM,aE,aN,aF,aO,aG,aP,aI⟩:a8 w3 x.heap.size S T U V Q R:=vc;obtain⟨_,_,_,_,_,_,_,_,_,_,_,_⟩:av w3 (x.heap.size+1) n t:=vd;go_wp2_with fail;refine ac (v:=.tuple #[.agg #[j 1,j n],j 0]) m1 rfl ⟨rfl,?_,?_⟩
 . exact vB
 . exact LB
def agk (f g:Nat)(d:N)(s:aj d)(D:d.waits=true)(c:¬b2 d=0)(L:cy (aH d)=-1)(t:(a9 (aH d)).1.2.1=-1)(k)(a:Hid (E k f g d)):
 an 38 #[I f] (.tuple #[eE 0 0,j (cN (a9 (aH d)).1.1)]) [f,g] f g ((a9 (aH d)).2) k:=by
 have K:=s.ok;have au:=a.out.lt;have aw:=a.out.Ww;have al:¬f=k.heap.size:=J;have O:Hid (E (k.alloc (.cells #[j 0,j 0] 46)) f g d):=b7;have Z:=a.out.Xq;have A:=l (fun W n=>qS f g d K W n);obtain⟨af,M⟩:=y (b2 d);simp only[<-M]at A c;have aQ:((af:Int)==0)=false:=eT;simp only[D]at Z;have aa:Hid (∀W,E W f g d->E (W.setCell ⟨f,35,none⟩ (.bool false)) f g (aH d)):=fun W n=>n.XU;have p:=mH s;have C:=l (fun W n=>oo f g (aH d) p.ok W n);have v:=mk p;have o:=l (fun W n=>tI f g (aH d) p.ok W n);obtain⟨⟨⟨r,ap,x⟩,ao⟩,G⟩:∃Y,Y=a9 (aH d):=⟨_,rfl⟩;simp only[<-G]at o v t|-;try dsimp only at o v t|-
 simp only[L]at C;subst t;have B:=l (fun W=>Fj r W);obtain⟨ak,Q⟩:=y (cN r);simp only[<-Q]at B|-;clear Q;obtain⟨T,U,V,X,R,S⟩:=r;unfold ag at *;unfold aS at o;try dsimp only at *
 clear G v;unfold eE;skip;obtain⟨am,H⟩:=y (aH d);simp only[<-H]at *;clear H p L K s;clear D c M;go_enter func38,ntmps38;go_wp2_with fail;refine(A.out _ O).mono ?_;rintro q ah ⟨rfl,i⟩;obtain⟨_,_,_,_,_,_,_,_,_,_,_,_⟩:av ah k.heap.size 0 0:=zp;have w:=O.out.kept i;have aq:=w.Xq;have ar:=w.Wb;have P:=l (aa.out _ w);go_wp2_with fail;refine(C.out _ P).mono ?_;rintro q ai ⟨rfl,b⟩;have ab:=l (P.out.kept b);obtain⟨_,_,_,_,_,_,_,_,_,_,_,_⟩:av ai k.heap.size 0 0:=pq;go_wp2_with fail;refine(o.out _ ab).mono ?_;rintro q z ⟨rfl,ad,e⟩;obtain⟨_,_,_,_,_,_,_,_,_,_,_,_⟩:av z k.heap.size 0 0:=pr;have ae:=l (((ad.alloc (.cells #[j T,j U,j V,j X,j R,j S] 53)).alloc (.cells #[j (-1),j x] 118)).alloc (.cells #[j (-1),j x] 118));go_wp2_with(go_at_call 83;refine(cd _ _ _).mono ?_;rintro q aT ⟨rfl,rfl⟩);refine(B.out _).mono ?_;rintro q w3 ⟨rfl,h⟩;have u:=ae.out.kept h;obtain⟨_,_,_,_,_,_,_,_,_,_,_,_⟩:av w3 k.heap.size 0 0:=vb;obtain⟨ax,ay,az,aA,aB,aC,aD,aJ,aM,aE,aN,aF,aO,aG,aP,aI⟩:a8 w3 z.heap.size T U V X R S:=vc;obtain⟨_,_,_,_,_,_,_,_,_,_,_,_⟩:av w3 (z.heap.size+1) (-1) x:=vd;go_wp2_with fail;refine ac (v:=.tuple #[.agg #[j 0,j 0],j ak]) m1 rfl ⟨rfl,?_,?_⟩
 . exact vB
 . exact LB
def age (d e:Nat)(a:N)(h:aj a)(g)(i:Hid (E g d e a)):
 an 38 #[I d] (.tuple #[eE (bW a).1.1 (bW a).1.2.1,j (bW a).1.2.2]) [d,e] d e ((bW a).2) g:=by
 unfold bW;by_cases b:a.waits=true
 . by_cases k:b2 a=0
   . rw[B (by simp[b,k])];exact agi d e a h b k g i
   . rw[z (by simp[b,k])];by_cases c:cy (aH a)=-1
     . rw[B c];unfold kn;by_cases f:(a9 (aH a)).1.2.1=-1
       . rw[B f];exact agk d e a h b k c f g i
       . rw[z f];exact agh d e a h b k c f g i
     . rw[z c];exact agm d e a h b k c g i
 . rw[z (by simp[b])];have b:a.waits=false:=by simpa using b
   by_cases c:cy (aH a)=-1
   . rw[B c];unfold kn;by_cases f:(a9 (aH a)).1.2.1=-1
     . rw[B f];exact agj d e a h b c f g i
     . rw[z f];exact agf d e a h b c f g i
   . rw[z c];exact agl d e a h b c g i
def cL (a:N):(Int×Int)×N:=(((bW a).1.1,(bW a).1.2.1),l9 (bW a).2 (decide ((bW a).1.1=0)) (a.c.W8 |||(bW a).1.2.2.toNat))
def PW (i:ak):cN i=0\/cN i=1\/cN i=4:=by
 unfold cN;repeat' split
 all_goals omega
def OC (a:N):(bW a).1.2.2=0\/(bW a).1.2.2=1\/(bW a).1.2.2=4:=by
 unfold bW kn;split
 . exact .inl rfl
 split
 . split
   . exact PW _
   . exact .inl rfl
 . exact .inl rfl
def D1 {a:N}(b:aj a):aj (cL a).2:=PI (si b).1 _ _
def x1 (d g:Nat)(c:N)(n:aj c)(i)(a:Hid (E i d g c)):
 an 25 #[I d] (eE (cL c).1.1 (cL c).1.2) [d,g] d g ((cL c).2) i:=by
 have V:=a.out.lt;have Y:=a.out.Ww;have U:¬d=i.heap.size:=J;have K:=a.out.Y4;have M:Hid (E (i.alloc (.cells #[j 0,j 0] 46)) d g c):=b7;have q:=l (fun W k=>age d g c n W k);have o:=si n;have t:=OC c;unfold cL;obtain⟨⟨⟨f,s,C⟩,H⟩,w⟩:∃G,G=bW c:=⟨_,rfl⟩;simp only[<-w]at q o t|-;try dsimp only at q o t|-
 obtain⟨h,L⟩:∃h:Nat,C=h:=⟨C.toNat,by omega⟩;subst L;simp only[ds]at|-;obtain⟨p,x⟩:=y (c.c.W8);have z:=n.ok.W8;simp only[<-x]at K z|-;have S:=g8 p h m m;have u:(p |||h)<4294967296:=fu p h 32 m m;obtain⟨T,hu⟩:=y (p |||h);simp only[<-hu]at S u|-;obtain⟨r,v⟩:=y (decide (f=0));have X:(f==0)=r:=by rw[v];by_cases k:f=0<;>simp[k]
 have D:=l (fun W k=>agU d g H o.1.ok r T u W k);simp only[<-v]at|-;unfold eE at *;clear a n w o t x z hu v u;go_enter func25,ntmps25;go_wp2_with fail;refine(q.out _ M).mono ?_;rintro R A ⟨rfl,O,b⟩;obtain⟨_,_,_,_,_,_,_,_,_,_,_,_⟩:av A i.heap.size 0 0:=ih;have P:=l (O.alloc (.cells #[j f,j s] 46));go_wp2_with fail;refine(D.out _ P).mono ?_;rintro R B ⟨rfl,Q,e⟩;obtain⟨_,_,_,_,_,_,_,_,_,_,_,_⟩:av B i.heap.size 0 0:=⟨lx,lx,GH,ce gU⟩;obtain⟨_,_,_,_,_,_,_,_,_,_,_,_⟩:av B A.heap.size f s:=⟨ly,ly,GI,ce gU⟩;go_wp2_with fail;refine ac (v:=.agg #[j f,j s]) (by simp[results,results25,go_sem, *]) rfl ⟨rfl,?_,?_⟩
 . repeat(first|(with_reducible exact Q)|(with_reducible refine E.alloc ?_ _)|(with_reducible refine E.drew ?_)|(with_reducible refine E.other _ _ _ ?_ m m))
 . exact pD
def gE :Nat->Nat->N->Nat×N
 |0,r,a=>(r,a)
 |b+1,r,a=>gE b (if(cL a).1.1=0 then r+1 else r) (cL a).2
def af8 (c:Nat)(a:Int)(b:a<0\/4096<a)(e:D):
 O 68 #[I c,j a] (.tuple #[j 0,j 2]) e:=by
 rcases b with b|b
 . have d:decide (a<0)=true:=g0;exact LI
 . have d:decide (a<0)=false:=M;have f:decide (a>4096)=true:=M;exact LI
def af7 (m n:Nat)(g:N)(A:aj g)(a:Nat)(P:a<=4096)(w)(H:Hid (E w m n g)):
 an 68 #[I m,j a] (.tuple #[j (gE a 0 g).1,j 0]) [m,n] m n ((gE a 0 g).2) w:=by
 have R:decide ((a:Int)<0)=false:=bN;have S:decide ((a:Int)>4096)=false:=M;obtain⟨d,u⟩:=y (gE a 0 g);rw[<-u];have G:=l u;have F:=l A;clear u A;go_enter func68,ntmps68;go_wp2_with fail;go_loopw [6,7] (fun p t wr=>∃(r i:Nat) (c:N),i<=a/\r<=i/\p=j r/\t=j i/\Hid (aj c)/\Hid (E wr m n c)/\Hid (Kept [m,n] w wr)/\Hid (d=gE (a-i) r c)) (fun _ t _=>a- (intOf t).toNat);case atStart=>exact Ll
 case round=>
  obtain⟨r,i,c,K,Q,rfl,rfl,v,h,f,e⟩:=hrel;clear G F H;by_cases L:i<a
  . have J:decide ((i:Int)< (a:Int))=true:=M;have k:Hid (d=gE (a- (i+1)) (if(cL c).1.1=0 then r+1 else r) (cL c).2):=by
     show d=_;rw[e.out,show a-i=(a- (i+1))+1 by omega];rfl
    clear e;have ST:=l (x1 m n c v.out wr h);have q:=l (D1 v.out);obtain⟨⟨⟨s,p⟩,o⟩,C⟩:∃D,D=cL c:=⟨_,rfl⟩;simp only[<-C]at ST q k;try dsimp only at ST q k
    unfold eE at ST;clear C v h;by_cases b:s=0
    . have x:Hid (d=gE (a- (i+1)) (r+1) o):=by show d=_;rw[k.out,B b]
      exact Li
    . have x:Hid (d=gE (a- (i+1)) r o):=by show d=_;rw[k.out,z b]
      exact Lj
  . exact Lk
end
end Go.Proofs.YtmlgonbhoknoiaaGreatDoor
