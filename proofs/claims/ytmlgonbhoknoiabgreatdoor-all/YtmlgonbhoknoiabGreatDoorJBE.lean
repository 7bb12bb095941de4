import Derived.Test.YtmlgonbhoknoiabGreatDoorJBB
set_option maxHeartbeats 8000000
set_option maxRecDepth 100000
set_option linter.all false
namespace Go.Proofs.YtmlgonbhoknoiabGreatDoor
open Go.RowKit Go.Proofs.Tryz
def iv (b a:Nat):Nat×Nat:=if b+1=4294967296 then(0,(a+1)%4294967296)else(b+1,a)
def kO (a:Q):Q:=if(decide (a.held%2=0)&&!a.W6)=true then{a with Wa:=(iv a.Wa a.Wg).1,Wg:=(iv a.Wa a.Wg).2}else a
def kP (a:Q)(r:Bool):Q:=if(r&&decide (a.held/4%2=0)&&!a.W7)=true then{a with ret:=(iv a.ret a.We).1,We:=(iv a.ret a.We).2}else a
def cY (a:Q)(r:Bool):Q:=kP (kO a) r
def sW {a:Q}(b:(decide (a.held%2=0)&&!a.W6)=false):kO a=a:=by unfold kO;rw[b];rfl
def sV {a:Q}(b:(decide (a.held%2=0)&&!a.W6)=true)(c:¬a.Wa+1=4294967296):kO a={a with Wa:=a.Wa+1}:=by unfold kO iv;rw[B b,z c]
def sX {a:Q}(b:(decide (a.held%2=0)&&!a.W6)=true)(c:a.Wa+1=4294967296):kO a={a with Wa:=0,Wg:=(a.Wg+1)%4294967296}:=by unfold kO iv;rw[B b,B c]
def nL {C:Q}{r:Bool}(a:(r&&decide (C.held/4%2=0)&&!C.W7)=false):kP C r=C:=by unfold kP;rw[a];rfl
def wR {C:Q}{r:Bool}(a:(r&&decide (C.held/4%2=0)&&!C.W7)=true)(b:¬C.ret+1=4294967296):kP C r={C with ret:=C.ret+1}:=by unfold kP iv;rw[B a,z b]
def wS {C:Q}{r:Bool}(a:(r&&decide (C.held/4%2=0)&&!C.W7)=true)(b:C.ret+1=4294967296):kP C r={C with ret:=0,We:=(C.We+1)%4294967296}:=by unfold kP iv;rw[B a,B b]
def abL (z L:Nat)(a:Q)(u:ay a)(r:Bool)(n:D)(d:Hid (T n z L a)):
 Calls prog 243 #[I z,.bool r] n fun Z K=>Z=.returned (.tuple #[])/\T K z L (cY a r)/\Kept [z] n K:=by
 have M:=u.held;have ab:=u.Wa;have ac:=u.Wg;have ad:=u.ret;have ae:=u.We;have af:=d.out.Ya;have ag:=d.out.Xk;have ah:=d.out.Xl;have ai:=d.out.Xq;have aj:=d.out.XJ;have X:=d.out.XC;have Y:=d.out.Xm;obtain⟨-,ak,al⟩:=d.out;have V:Hid (∀n,O 322 #[j a.held,j 0] (j ((a.held%2:Nat):Int)) n):=l (fun n=>by
  have N:=e7 a.held 0 M m n;rw[ln,oy]at N;exact N)
 have W:Hid (∀n,O 322 #[j a.held,j 2] (j ((a.held/4%2:Nat):Int)) n):=l (fun n=>e7 a.held 2 M m n);have S:(((a.held%2:Nat):Int)==0)=decide (a.held%2=0):=ik;have U:(((a.held/4%2:Nat):Int)==0)=decide (a.held/4%2=0):=ik;obtain⟨aa,C⟩:=y (decide (a.held%2=0));obtain⟨H,E⟩:=y (decide (a.held/4%2=0));obtain⟨wc,A⟩:=y (a.W6);obtain⟨wi,B⟩:=y (a.W7);rw[<-C]at S;rw[<-E]at U;rw[<-A]at X;rw[<-B]at Y;have t:=l (cW C (cW E (cW A B)));clear C E A B;obtain⟨am,P⟩:=y (a.held%2);obtain⟨an,R⟩:=y (a.held/4%2);rw[<-P]at V S;rw[<-R]at W U;clear P R u;have ao:((a.Wg:Int)+1).tmod 4294967296=(((a.Wg+1)%4294967296:Nat):Int):=fc;have ap:((a.We:Int)+1).tmod 4294967296=(((a.We+1)%4294967296:Nat):Int):=fc;cases aa
 . exact Lt
 . cases wc
   . by_cases o:a.Wa+1=4294967296
     . cases r
       . have e:(decide (a.held%2=0)&&!a.W6)=true:=ic;have f1:=sX e o;have f:(false&&decide (a.held/4%2=0)&&!a.W7)=false:=ie;have f2:cY a false={a with Wa:=0,Wg:=(a.Wg+1)%4294967296}:=by
          unfold cY;rw[f1];exact nL (C:={a with Wa:=0,Wg:=(a.Wg+1)%4294967296}) f
         exact Lu
       . cases H
         . exact Lv
         . cases wi
           . by_cases p:a.ret+1=4294967296
             . have e:(decide (a.held%2=0)&&!a.W6)=true:=ic;have f1:=sX e o;have f:(true&&decide (a.held/4%2=0)&&!a.W7)=true:=ie;have f2:cY a true={{a with Wa:=0,Wg:=(a.Wg+1)%4294967296}with ret:=0,We:=(a.We+1)%4294967296}:=by
                unfold cY;rw[f1];exact wS (C:={a with Wa:=0,Wg:=(a.Wg+1)%4294967296}) f p
               rw[f2];have b:=l (((((d.out.set (C':={a with Wa:=0}) 32 (j 0) rfl m).set (C':={a with Wa:=0,Wg:=(a.Wg+1)%4294967296}) 33 (j (((a.Wg+1)%4294967296:Nat):Int)) rfl m).set (C':={{a with Wa:=0,Wg:=(a.Wg+1)%4294967296}with ret:=0}) 34 (j 0) rfl m).set (C':={{a with Wa:=0,Wg:=(a.Wg+1)%4294967296}with ret:=0,We:=(a.We+1)%4294967296}) 35 (j (((a.We+1)%4294967296:Nat):Int)) rfl m));have c:=l (((((((d.out.set (C':={a with Wa:=a.Wa+1}) 32 (j ((a.Wa+1:Nat):Int)) rfl m).set (C':={a with Wa:=0}) 32 (j 0) rfl m).set (C':={a with Wa:=0,Wg:=(a.Wg+1)%4294967296}) 33 (j (((a.Wg+1)%4294967296:Nat):Int)) rfl m).set (C':={{a with Wa:=0,Wg:=(a.Wg+1)%4294967296}with ret:=a.ret+1}) 34 (j ((a.ret+1:Nat):Int)) rfl m).set (C':={{a with Wa:=0,Wg:=(a.Wg+1)%4294967296}with ret:=0}) 34 (j 0) rfl m).set (C':={{a with Wa:=0,Wg:=(a.Wg+1)%4294967296}with ret:=0,We:=(a.We+1)%4294967296}) 35 (j (((a.We+1)%4294967296:Nat):Int)) rfl m));have g:((a.Wa+1:Nat):Int)=(a.Wa:Int)+1:=J;have h:((a.ret+1:Nat):Int)=(a.ret:Int)+1:=J;have i:(((a.Wg+1)%4294967296:Nat):Int)=((a.Wg:Int)+1)%4294967296:=J;have k:(((a.We+1)%4294967296:Nat):Int)=((a.We:Int)+1)%4294967296:=J;try rw[i]at b
               try rw[i]at c
               try rw[k]at b
               try rw[k]at c
               try rw[g]at b
               try rw[g]at c
               try rw[h]at b
               try rw[h]at c
               have G:((a.Wa:Int)+1==4294967296)=true:=jC;exact Lw
             . have e:(decide (a.held%2=0)&&!a.W6)=true:=ic;have f1:=sX e o;have f:(true&&decide (a.held/4%2=0)&&!a.W7)=true:=ie;have f2:cY a true={{a with Wa:=0,Wg:=(a.Wg+1)%4294967296}with ret:=a.ret+1}:=by
                unfold cY;rw[f1];exact wR (C:={a with Wa:=0,Wg:=(a.Wg+1)%4294967296}) f p
               rw[f2];have b:=l ((((d.out.set (C':={a with Wa:=0}) 32 (j 0) rfl m).set (C':={a with Wa:=0,Wg:=(a.Wg+1)%4294967296}) 33 (j (((a.Wg+1)%4294967296:Nat):Int)) rfl m).set (C':={{a with Wa:=0,Wg:=(a.Wg+1)%4294967296}with ret:=a.ret+1}) 34 (j ((a.ret+1:Nat):Int)) rfl m));have c:=l (((((d.out.set (C':={a with Wa:=a.Wa+1}) 32 (j ((a.Wa+1:Nat):Int)) rfl m).set (C':={a with Wa:=0}) 32 (j 0) rfl m).set (C':={a with Wa:=0,Wg:=(a.Wg+1)%4294967296}) 33 (j (((a.Wg+1)%4294967296:Nat):Int)) rfl m).set (C':={{a with Wa:=0,Wg:=(a.Wg+1)%4294967296}with ret:=a.ret+1}) 34 (j ((a.ret+1:Nat):Int)) rfl m));have g:((a.Wa+1:Nat):Int)=(a.Wa:Int)+1:=J;have h:((a.ret+1:Nat):Int)=(a.ret:Int)+1:=J;have i:(((a.Wg+1)%4294967296:Nat):Int)=((a.Wg:Int)+1)%4294967296:=J;have k:(((a.We+1)%4294967296:Nat):Int)=((a.We:Int)+1)%4294967296:=J;try rw[i]at b
               try rw[i]at c
               try rw[k]at b
               try rw[k]at c
               try rw[g]at b
               try rw[g]at c
               try rw[h]at b
               try rw[h]at c
               have G:((a.Wa:Int)+1==4294967296)=true:=jC;exact Lx
           . exact Lv
     . cases r
       . have e:(decide (a.held%2=0)&&!a.W6)=true:=ic;have f1:=sV e o;have f:(false&&decide (a.held/4%2=0)&&!a.W7)=false:=ie;have f2:cY a false={a with Wa:=a.Wa+1}:=by
          unfold cY;rw[f1];exact nL (C:={a with Wa:=a.Wa+1}) f
         exact Ly
       . cases H
         . exact Lz
         . cases wi
           . by_cases p:a.ret+1=4294967296
             . have e:(decide (a.held%2=0)&&!a.W6)=true:=ic;have f1:=sV e o;have f:(true&&decide (a.held/4%2=0)&&!a.W7)=true:=ie;have f2:cY a true={{a with Wa:=a.Wa+1}with ret:=0,We:=(a.We+1)%4294967296}:=by
                unfold cY;rw[f1];exact wS (C:={a with Wa:=a.Wa+1}) f p
               rw[f2];have b:=l ((((d.out.set (C':={a with Wa:=a.Wa+1}) 32 (j ((a.Wa+1:Nat):Int)) rfl m).set (C':={{a with Wa:=a.Wa+1}with ret:=0}) 34 (j 0) rfl m).set (C':={{a with Wa:=a.Wa+1}with ret:=0,We:=(a.We+1)%4294967296}) 35 (j (((a.We+1)%4294967296:Nat):Int)) rfl m));have c:=l (((((d.out.set (C':={a with Wa:=a.Wa+1}) 32 (j ((a.Wa+1:Nat):Int)) rfl m).set (C':={{a with Wa:=a.Wa+1}with ret:=a.ret+1}) 34 (j ((a.ret+1:Nat):Int)) rfl m).set (C':={{a with Wa:=a.Wa+1}with ret:=0}) 34 (j 0) rfl m).set (C':={{a with Wa:=a.Wa+1}with ret:=0,We:=(a.We+1)%4294967296}) 35 (j (((a.We+1)%4294967296:Nat):Int)) rfl m));have g:((a.Wa+1:Nat):Int)=(a.Wa:Int)+1:=J;have h:((a.ret+1:Nat):Int)=(a.ret:Int)+1:=J;have i:(((a.Wg+1)%4294967296:Nat):Int)=((a.Wg:Int)+1)%4294967296:=J;have k:(((a.We+1)%4294967296:Nat):Int)=((a.We:Int)+1)%4294967296:=J;try rw[i]at b
               try rw[i]at c
               try rw[k]at b
               try rw[k]at c
               try rw[g]at b
               try rw[g]at c
               try rw[h]at b
               try rw[h]at c
               have G:((a.Wa:Int)+1==4294967296)=false:=gU;exact Lw
             . have e:(decide (a.held%2=0)&&!a.W6)=true:=ic;have f1:=sV e o;have f:(true&&decide (a.held/4%2=0)&&!a.W7)=true:=ie;have f2:cY a true={{a with Wa:=a.Wa+1}with ret:=a.ret+1}:=by
                unfold cY;rw[f1];exact wR (C:={a with Wa:=a.Wa+1}) f p
               rw[f2];have b:=l (((d.out.set (C':={a with Wa:=a.Wa+1}) 32 (j ((a.Wa+1:Nat):Int)) rfl m).set (C':={{a with Wa:=a.Wa+1}with ret:=a.ret+1}) 34 (j ((a.ret+1:Nat):Int)) rfl m));have c:=l (((d.out.set (C':={a with Wa:=a.Wa+1}) 32 (j ((a.Wa+1:Nat):Int)) rfl m).set (C':={{a with Wa:=a.Wa+1}with ret:=a.ret+1}) 34 (j ((a.ret+1:Nat):Int)) rfl m));have g:((a.Wa+1:Nat):Int)=(a.Wa:Int)+1:=J;have h:((a.ret+1:Nat):Int)=(a.ret:Int)+1:=J;have i:(((a.Wg+1)%4294967296:Nat):Int)=((a.Wg:Int)+1)%4294967296:=J;have k:(((a.We+1)%4294967296:Nat):Int)=((a.We:Int)+1)%4294967296:=J;try rw[i]at b
               try rw[i]at c
               try rw[k]at b
               try rw[k]at c
               try rw[g]at b
               try rw[g]at c
               try rw[h]at b
               try rw[h]at c
               have G:((a.Wa:Int)+1==4294967296)=false:=gU;exact Lx
           . exact Lz
   . exact Lt
section
attribute [local go_sem ↓] Go.wp_at_zero Go.wp_at_succ
def E.XU {d a c b}(e:E d a c b):E (d.setCell ⟨a,35,none⟩ (.bool false)) a c {b with waits:=false}:=e.set 35 _ rfl rfl (by omega)
def aH (a:N):N:={a with waits:=false}
def ks (a:(ak× (Int×Nat))×N):(Int×Int×Int)×N:=
 if a.1.2.1=-1 then((0,0,cL a.1.1),a.2)else((1,a.1.2.1,0),iI a.2 a.1.2.1.toNat a.1.2.2)
def bV (a:N):(Int×Int×Int)×N:=
 if(a.waits&&decide (b1 a=0))=true then((3,0,0),a)
 else if cw (aH a)=-1 then ks (a8 (aH a))
 else((2,cw (aH a),0),iK (aH a) (cw (aH a)).toNat)
def eE (b a:Int):Value:=.agg #[j b,j a]
def CV (a:Nat):-1<=ef a/\ef a<12:=by
 unfold ef;repeat' split
 all_goals omega
def qk (a:N):-1<=cw a/\cw a<12:=by
 have b:=CV (aI (b1 a) a.c.V9);have c:=CV (b1 a&&&a.c.V9);unfold cw qi;split
 . exact b
 split
 . exact c
 . omega
def mF {a:N}(b:aj a):aj (aH a):={b with ok:={b.ok with}}
def sJ {a:N}(c:aj a):aj (bV a).2/\ -1<=(bV a).1.2.1/\(bV a).1.2.1<16:=by
 have d:=mF c;have e:=qk (aH a);have b:=mi d;unfold bV;split
 . exact⟨c,cn,cn⟩
 split
 . unfold ks;split
   . exact⟨b.1,cn,cn⟩
   . exact⟨VU b.1 _ _ m b.2.1,b.2.2⟩
 . refine⟨VX d _ m,?_,?_⟩<;>dsimp only<;>omega
def afD (d e:Nat)(c:N)(k:aj c)(h:c.waits=true)(i:b1 c=0)(f)(a:Hid (E f d e c)):
 an 37 #[I d] (.tuple #[eE 3 0,j 0]) [d,e] d e c f:=by
 have n:=k.ok;have u:=a.out.lt;have v:=a.out.Ww;have t:¬d=f.heap.size:=J;have o:Hid (E (f.alloc (.cells #[j 0,j 0] 45)) d e c):=b6;have p:=a.out.Xq;have g:=l (fun W q=>q9 d e c n W q);simp only[i,h]at g p;unfold eE;clear n k a h i;go_enter mY,mZ;go_wp2_with fail;refine(g.out _ o).mono ?_;rintro w s ⟨rfl,b⟩;obtain⟨_,_,_,_,_,_,_,_,_,_,_,_⟩:av s f.heap.size 0 0:=ii;have r:=o.out.kept b;go_wp2_with fail;refine ab (v:=.tuple #[.agg #[j 3,j 0],j 0]) m5 rfl ⟨rfl,?_,?_⟩
 . repeat(first|(with_reducible exact r)|(with_reducible refine E.alloc ?_ _)|(with_reducible refine E.drew ?_)|(with_reducible refine E.other _ _ _ ?_ m m))
 . exact vT
def UV (d:D)(a g b c:Nat)(h:Value)(f:¬a=b):(d.setCell ⟨b,g,none⟩ h).cell? ⟨a,c,none⟩=d.cell? ⟨a,c,none⟩:=
 bZ _ _ _ _ (by intro e;exact f (congrArg Addr.block e).symm)
def afG (c f:Nat)(a:N)(q:aj a)(p:a.waits=false)(s:¬cw (aH a)=-1)(g)(d:Hid (E g c f a)):
 an 37 #[I c] (.tuple #[eE 2 (cw (aH a)),j 0]) [c,f] c f (iK (aH a) (cw (aH a)).toNat) g:=by
 have L:=d.out.lt;have M:=d.out.Ww;have D:¬c=g.heap.size:=J;have v:=d.out.Xq;have H:=d.out.Wb;have n:=l (d.out.XU.alloc (.cells #[j 0,j 0] 45));simp only[p]at v;have k:=mF q;have o:=l (fun W i=>ov c f (aH a) k.ok W i);have t:{a with waits:=false}=aH a:=rfl;have K:=qk (aH a);obtain⟨h,w⟩:∃h:Nat,cw (aH a)=h:=⟨(cw (aH a)).toNat,by omega⟩;have u:=l (fun W i=>FU c f (aH a) k.ok h m W i);simp only[w,dp]at o s|-;unfold eE;try simp only[t]at n
 obtain⟨G,r⟩:=y (aH a);simp only[<-r]at *;clear t r k s q;clear p;go_enter mY,mZ;go_wp2_with fail;refine(o.out _ n).mono ?_;rintro z A ⟨rfl,b⟩;have x:=l (n.out.kept b);obtain⟨_,_,_,_,_,_,_,_,_,_,_,_⟩:av A g.heap.size 0 0:=pG;go_wp2_with fail;refine(u.out _ x).mono ?_;rintro z B ⟨rfl,C,e⟩;obtain⟨_,_,_,_,_,_,_,_,_,_,_,_⟩:av B g.heap.size 0 0:=pH;go_wp2_with fail;refine ab (v:=.tuple #[.agg #[j 2,j h],j 0]) m5 rfl ⟨rfl,?_,?_⟩
 . exact LW
 . exact pT
def afB (c f:Nat)(a:N)(z:aj a)(x:a.waits=false)(C:cw (aH a)=-1)(D:¬(a8 (aH a)).1.2.1=-1)(g)(k:Hid (E g c f a)):
 an 37 #[I c] (.tuple #[eE 1 ((a8 (aH a)).1.2.1),j 0]) [c,f] c f (iI (a8 (aH a)).2 (a8 (aH a)).1.2.1.toNat (a8 (aH a)).1.2.2) g:=by
 have af:=k.out.lt;have ah:=k.out.Ww;have ac:¬c=g.heap.size:=J;have U:=k.out.Xq;have ae:=k.out.Wb;have r:=l (k.out.XU.alloc (.cells #[j 0,j 0] 45));simp only[x]at U;have o:=mF z;have v:=l (fun W i=>ov c f (aH a) o.ok W i);have G:{a with waits:=false}=aH a:=rfl;have p:=mi o;have n:=l (fun W i=>ue c f (aH a) o.ok W i);obtain⟨⟨⟨Q,w,q⟩,T⟩,A⟩:∃R,R=a8 (aH a):=⟨_,rfl⟩;simp only[<-A]at n p D|-;try dsimp only at n p D|-
 simp only[C]at v;obtain⟨d,V⟩:∃d:Nat,w=d:=⟨w.toNat,by omega⟩;subst V;have S:=l (fun W i=>FT c f T p.1.ok d q m W i);simp only[dp]at|-;have aD:((d:Int)==-1)=false:=vp;obtain⟨L,M,O,P,H,K⟩:=Q;unfold ag at *;unfold aR at n;try dsimp only at *
 clear A p;unfold eE;try simp only[G]at r
 obtain⟨ad,B⟩:=y (aH a);simp only[<-B]at *;clear G B o C z;clear x;go_enter mY,mZ;go_wp2_with fail;refine(v.out _ r).mono ?_;rintro s aa ⟨rfl,b⟩;have X:=l (r.out.kept b);obtain⟨_,_,_,_,_,_,_,_,_,_,_,_⟩:av aa g.heap.size 0 0:=pG;go_wp2_with fail;refine(n.out _ X).mono ?_;rintro s t ⟨rfl,Y,e⟩;obtain⟨_,_,_,_,_,_,_,_,_,_,_,_⟩:av t g.heap.size 0 0:=pH;have Z:=l (((Y.alloc (.cells #[j L,j M,j O,j P,j H,j K] 60)).alloc (.cells #[j d,j q] 118)).alloc (.cells #[j d,j q] 118));go_wp2_with(go_at_call 82;refine(cc _ _ _).mono ?_;rintro s aE ⟨rfl,rfl⟩);refine(S.out _ Z).mono ?_;rintro s w3 ⟨rfl,u,h⟩;obtain⟨_,_,_,_,_,_,_,_,_,_,_,_⟩:av w3 g.heap.size 0 0:=vx;obtain⟨ai,ak,al,am,ao,ap,aq,ay,az,ar,aA,au,aB,aw,aC,ax⟩:a7 w3 t.heap.size L M O P H K:=vy;obtain⟨_,_,_,_,_,_,_,_,_,_,_,_⟩:av w3 (t.heap.size+1) d q:=vz;go_wp2_with fail;refine ab (v:=.tuple #[.agg #[j 1,j d],j 0]) m5 rfl ⟨rfl,?_,?_⟩
 . exact vX
 . exact sq
def afE (c g:Nat)(a:N)(A:aj a)(z:a.waits=false)(D:cw (aH a)=-1)(p:(a8 (aH a)).1.2.1=-1)(d)(f:Hid (E d c g a)):
 an 37 #[I c] (.tuple #[eE 0 0,j (cL (a8 (aH a)).1.1)]) [c,g] c g ((a8 (aH a)).2) d:=by
 have af:=f.out.lt;have ah:=f.out.Ww;have Z:¬c=d.heap.size:=J;have S:=f.out.Xq;have ae:=f.out.Wb;have r:=l (f.out.XU.alloc (.cells #[j 0,j 0] 45));simp only[z]at S;have k:=mF A;have x:=l (fun W o=>ov c g (aH a) k.ok W o);have G:{a with waits:=false}=aH a:=rfl;have q:=mi k;have i:=l (fun W o=>ue c g (aH a) k.ok W o);obtain⟨⟨⟨n,ad,t⟩,ac⟩,B⟩:∃R,R=a8 (aH a):=⟨_,rfl⟩;simp only[<-B]at i q p|-;try dsimp only at i q p|-
 simp only[D]at x;subst p;have w:=l (fun W=>FE n W);obtain⟨Y,H⟩:=y (cL n);simp only[<-H]at w|-;clear H;obtain⟨M,O,P,Q,K,L⟩:=n;unfold ag at *;unfold aR at i;try dsimp only at *
 clear B q;unfold eE;try simp only[G]at r
 obtain⟨aa,C⟩:=y (aH a);simp only[<-C]at *;clear G C k D A;clear z;go_enter mY,mZ;go_wp2_with fail;refine(x.out _ r).mono ?_;rintro s X ⟨rfl,b⟩;have T:=l (r.out.kept b);obtain⟨_,_,_,_,_,_,_,_,_,_,_,_⟩:av X d.heap.size 0 0:=pG;go_wp2_with fail;refine(i.out _ T).mono ?_;rintro s v ⟨rfl,U,e⟩;obtain⟨_,_,_,_,_,_,_,_,_,_,_,_⟩:av v d.heap.size 0 0:=pH;have V:=l (((U.alloc (.cells #[j M,j O,j P,j Q,j K,j L] 60)).alloc (.cells #[j (-1),j t] 118)).alloc (.cells #[j (-1),j t] 118));go_wp2_with(go_at_call 82;refine(cc _ _ _).mono ?_;rintro s aD ⟨rfl,rfl⟩);refine(w.out _).mono ?_;rintro s w3 ⟨rfl,h⟩;have u:=V.out.kept h;obtain⟨_,_,_,_,_,_,_,_,_,_,_,_⟩:av w3 d.heap.size 0 0:=vx;obtain⟨ai,ak,al,am,ao,ap,aq,ay,az,ar,aA,au,aB,aw,aC,ax⟩:a7 w3 v.heap.size M O P Q K L:=vy;obtain⟨_,_,_,_,_,_,_,_,_,_,_,_⟩:av w3 (v.heap.size+1) (-1) t:=vz;go_wp2_with fail;refine ab (v:=.tuple #[.agg #[j 0,j 0],j Y]) m5 rfl ⟨rfl,?_,?_⟩
 . exact vX
 . exact sq
def afH (f g:Nat)(d:N)(o:aj d)(t:d.waits=true)(c:¬b1 d=0)(w:¬cw (aH d)=-1)(k)(a:Hid (E k f g d)):
 an 37 #[I f] (.tuple #[eE 2 (cw (aH d)),j 0]) [f,g] f g (iK (aH d) (cw (aH d)).toNat) k:=by
 have v:=o.ok;have X:=a.out.lt;have Y:=a.out.Ww;have R:¬f=k.heap.size:=J;have z:Hid (E (k.alloc (.cells #[j 0,j 0] 45)) f g d):=b6;have G:=a.out.Xq;have r:=l (fun W h=>q9 f g d v W h);obtain⟨M,x⟩:=y (b1 d);simp only[<-x]at r c;have Z:((M:Int)==0)=false:=eT;simp only[t]at G;have K:Hid (∀W,E W f g d->E (W.setCell ⟨f,35,none⟩ (.bool false)) f g (aH d)):=fun W h=>h.XU;have p:=mF o;have s:=l (fun W h=>ov f g (aH d) p.ok W h);have V:=qk (aH d);obtain⟨n,H⟩:∃n:Nat,cw (aH d)=n:=⟨(cw (aH d)).toNat,by omega⟩;have D:=l (fun W h=>FU f g (aH d) p.ok n m W h);simp only[H,dp]at s w|-;unfold eE;skip;obtain⟨S,u⟩:=y (aH d);simp only[<-u]at *;clear u p w v o;clear t c x;go_enter mY,mZ;go_wp2_with fail;refine(r.out _ z).mono ?_;rintro B O ⟨rfl,i⟩;obtain⟨_,_,_,_,_,_,_,_,_,_,_,_⟩:av O k.heap.size 0 0:=zL;have q:=z.out.kept i;have T:=q.Xq;have U:=q.Wb;have A:=l (K.out _ q);go_wp2_with fail;refine(s.out _ A).mono ?_;rintro B P ⟨rfl,b⟩;have L:=l (A.out.kept b);obtain⟨_,_,_,_,_,_,_,_,_,_,_,_⟩:av P k.heap.size 0 0:=pG;go_wp2_with fail;refine(D.out _ L).mono ?_;rintro B Q ⟨rfl,C,e⟩;obtain⟨_,_,_,_,_,_,_,_,_,_,_,_⟩:av Q k.heap.size 0 0:=pH;go_wp2_with fail;refine ab (v:=.tuple #[.agg #[j 2,j n],j 0]) m5 rfl ⟨rfl,?_,?_⟩
 . exact LW
 . repeat(first|(with_reducible exact Kept.refl _ _)|(with_reducible refine Kept.Xb ?_ _ _)|(with_reducible refine Kept.setCell ?_ (ch aL) _)|(with_reducible refine Kept.drew ?_)|(with_reducible refine Kept.drewN ?_ _)|(with_reducible refine Kept.alloc ?_ _)|(with_reducible refine Kept.trans ?_ (e.mono F))|(with_reducible refine Kept.trans ?_ (b.mono F))|(with_reducible refine Kept.trans ?_ (i.mono F)))
def afC (f g:Nat)(d:N)(v:aj d)(C:d.waits=true)(c:¬b1 d=0)(K:cw (aH d)=-1)(L:¬(a8 (aH d)).1.2.1=-1)(o)(a:Hid (E o f g d)):
 an 37 #[I f] (.tuple #[eE 1 ((a8 (aH d)).1.2.1),j 0]) [f,g] f g (iI (a8 (aH d)).2 (a8 (aH d)).1.2.1.toNat (a8 (aH d)).1.2.2) o:=by
 have H:=v.ok;have au:=a.out.lt;have aw:=a.out.Ww;have ao:¬f=o.heap.size:=J;have O:Hid (E (o.alloc (.cells #[j 0,j 0] 45)) f g d):=b6;have ac:=a.out.Xq;have z:=l (fun W k=>q9 f g d H W k);obtain⟨ak,M⟩:=y (b1 d);simp only[<-M]at z c;have aS:((ak:Int)==0)=false:=eT;simp only[C]at ac;have ae:Hid (∀W,E W f g d->E (W.setCell ⟨f,35,none⟩ (.bool false)) f g (aH d)):=fun W k=>k.XU;have q:=mF v;have A:=l (fun W k=>ov f g (aH d) q.ok W k);have r:=mi q;have p:=l (fun W k=>ue f g (aH d) q.ok W k);obtain⟨⟨⟨X,B,t⟩,aa⟩,D⟩:∃Y,Y=a8 (aH d):=⟨_,rfl⟩;simp only[<-D]at p r L|-;try dsimp only at p r L|-
 simp only[K]at A;obtain⟨n,ad⟩:∃n:Nat,B=n:=⟨B.toNat,by omega⟩;subst ad;have Z:=l (fun W k=>FT f g aa r.1.ok n t m W k);simp only[dp]at|-;have aT:((n:Int)==-1)=false:=vp;obtain⟨S,T,U,V,Q,R⟩:=X;unfold ag at *;unfold aR at p;try dsimp only at *
 clear D r;unfold eE;skip;obtain⟨ap,G⟩:=y (aH d);simp only[<-G]at *;clear G q K H v;clear C c M;go_enter mY,mZ;go_wp2_with fail;refine(z.out _ O).mono ?_;rintro s al ⟨rfl,i⟩;obtain⟨_,_,_,_,_,_,_,_,_,_,_,_⟩:av al o.heap.size 0 0:=zL;have w:=O.out.kept i;have aq:=w.Xq;have ar:=w.Wb;have P:=l (ae.out _ w);go_wp2_with fail;refine(A.out _ P).mono ?_;rintro s am ⟨rfl,b⟩;have af:=l (P.out.kept b);obtain⟨_,_,_,_,_,_,_,_,_,_,_,_⟩:av am o.heap.size 0 0:=pG;go_wp2_with fail;refine(p.out _ af).mono ?_;rintro s x ⟨rfl,ah,e⟩;obtain⟨_,_,_,_,_,_,_,_,_,_,_,_⟩:av x o.heap.size 0 0:=pH;have ai:=l (((ah.alloc (.cells #[j S,j T,j U,j V,j Q,j R] 60)).alloc (.cells #[j n,j t] 118)).alloc (.cells #[j n,j t] 118));go_wp2_with(go_at_call 82;refine(cc _ _ _).mono ?_;rintro s aU ⟨rfl,rfl⟩);refine(Z.out _ ai).mono ?_;rintro s w3 ⟨rfl,u,h⟩;obtain⟨_,_,_,_,_,_,_,_,_,_,_,_⟩:av w3 o.heap.size 0 0:=vx;obtain⟨ax,ay,az,aA,aB,aC,aD,aJ,aM,aE,aN,aF,aO,aG,aP,aI⟩:a7 w3 x.heap.size S T U V Q R:=vy;obtain⟨_,_,_,_,_,_,_,_,_,_,_,_⟩:av w3 (x.heap.size+1) n t:=vz;go_wp2_with fail;refine ab (v:=.tuple #[.agg #[j 1,j n],j 0]) m5 rfl ⟨rfl,?_,?_⟩
 . exact vX
 . exact LX
def afF (f g:Nat)(d:N)(s:aj d)(D:d.waits=true)(c:¬b1 d=0)(L:cw (aH d)=-1)(t:(a8 (aH d)).1.2.1=-1)(k)(a:Hid (E k f g d)):
 an 37 #[I f] (.tuple #[eE 0 0,j (cL (a8 (aH d)).1.1)]) [f,g] f g ((a8 (aH d)).2) k:=by
 have K:=s.ok;have au:=a.out.lt;have aw:=a.out.Ww;have al:¬f=k.heap.size:=J;have O:Hid (E (k.alloc (.cells #[j 0,j 0] 45)) f g d):=b6;have Z:=a.out.Xq;have A:=l (fun W n=>q9 f g d K W n);obtain⟨af,M⟩:=y (b1 d);simp only[<-M]at A c;have aS:((af:Int)==0)=false:=eT;simp only[D]at Z;have aa:Hid (∀W,E W f g d->E (W.setCell ⟨f,35,none⟩ (.bool false)) f g (aH d)):=fun W n=>n.XU;have p:=mF s;have C:=l (fun W n=>ov f g (aH d) p.ok W n);have v:=mi p;have o:=l (fun W n=>ue f g (aH d) p.ok W n);obtain⟨⟨⟨r,ap,x⟩,ao⟩,G⟩:∃Y,Y=a8 (aH d):=⟨_,rfl⟩;simp only[<-G]at o v t|-;try dsimp only at o v t|-
 simp only[L]at C;subst t;have B:=l (fun W=>FE r W);obtain⟨ak,Q⟩:=y (cL r);simp only[<-Q]at B|-;clear Q;obtain⟨T,U,V,X,R,S⟩:=r;unfold ag at *;unfold aR at o;try dsimp only at *
 clear G v;unfold eE;skip;obtain⟨am,H⟩:=y (aH d);simp only[<-H]at *;clear H p L K s;clear D c M;go_enter mY,mZ;go_wp2_with fail;refine(A.out _ O).mono ?_;rintro q ah ⟨rfl,i⟩;obtain⟨_,_,_,_,_,_,_,_,_,_,_,_⟩:av ah k.heap.size 0 0:=zL;have w:=O.out.kept i;have aq:=w.Xq;have ar:=w.Wb;have P:=l (aa.out _ w);go_wp2_with fail;refine(C.out _ P).mono ?_;rintro q ai ⟨rfl,b⟩;have ac:=l (P.out.kept b);obtain⟨_,_,_,_,_,_,_,_,_,_,_,_⟩:av ai k.heap.size 0 0:=pG;go_wp2_with fail;refine(o.out _ ac).mono ?_;rintro q z ⟨rfl,ad,e⟩;obtain⟨_,_,_,_,_,_,_,_,_,_,_,_⟩:av z k.heap.size 0 0:=pH;have ae:=l (((ad.alloc (.cells #[j T,j U,j V,j X,j R,j S] 60)).alloc (.cells #[j (-1),j x] 118)).alloc (.cells #[j (-1),j x] 118));go_wp2_with(go_at_call 82;refine(cc _ _ _).mono ?_;rintro q aT ⟨rfl,rfl⟩);refine(B.out _).mono ?_;rintro q w3 ⟨rfl,h⟩;have u:=ae.out.kept h;obtain⟨_,_,_,_,_,_,_,_,_,_,_,_⟩:av w3 k.heap.size 0 0:=vx;obtain⟨ax,ay,az,aA,aB,aC,aD,aJ,aM,aE,aN,aF,aO,aG,aP,aI⟩:a7 w3 z.heap.size T U V X R S:=vy;obtain⟨_,_,_,_,_,_,_,_,_,_,_,_⟩:av w3 (z.heap.size+1) (-1) x:=vz;go_wp2_with fail;refine ab (v:=.tuple #[.agg #[j 0,j 0],j ak]) m5 rfl ⟨rfl,?_,?_⟩
 . exact vX
 . exact LX
def afA (d e:Nat)(a:N)(h:aj a)(g)(i:Hid (E g d e a)):
 an 37 #[I d] (.tuple #[eE (bV a).1.1 (bV a).1.2.1,j (bV a).1.2.2]) [d,e] d e ((bV a).2) g:=by
 unfold bV;by_cases b:a.waits=true
 . by_cases k:b1 a=0
   . rw[B (by simp[b,k])];exact afD d e a h b k g i
   . rw[z (by simp[b,k])];by_cases c:cw (aH a)=-1
     . rw[B c];unfold ks;by_cases f:(a8 (aH a)).1.2.1=-1
       . rw[B f];exact afF d e a h b k c f g i
       . rw[z f];exact afC d e a h b k c f g i
     . rw[z c];exact afH d e a h b k c g i
 . rw[z (by simp[b])];have b:a.waits=false:=by simpa using b
   by_cases c:cw (aH a)=-1
   . rw[B c];unfold ks;by_cases f:(a8 (aH a)).1.2.1=-1
     . rw[B f];exact afE d e a h b c f g i
     . rw[z f];exact afB d e a h b c f g i
   . rw[z c];exact afG d e a h b c g i
def cJ (a:N):(Int×Int)×N:=(((bV a).1.1,(bV a).1.2.1),l7 (bV a).2 (decide ((bV a).1.1=0)) (a.c.W8 |||(bV a).1.2.2.toNat))
def Qs (i:ak):cL i=0\/cL i=1\/cL i=4:=by
 unfold cL;repeat' split
 all_goals omega
def OX (a:N):(bV a).1.2.2=0\/(bV a).1.2.2=1\/(bV a).1.2.2=4:=by
 unfold bV ks;split
 . exact .inl rfl
 split
 . split
   . exact Qs _
   . exact .inl rfl
 . exact .inl rfl
def El {a:N}(b:aj a):aj (cJ a).2:=Qe (sJ b).1 _ _
def yn (d g:Nat)(c:N)(n:aj c)(i)(a:Hid (E i d g c)):
 an 24 #[I d] (eE (cJ c).1.1 (cJ c).1.2) [d,g] d g ((cJ c).2) i:=by
 have V:=a.out.lt;have Y:=a.out.Ww;have U:¬d=i.heap.size:=J;have K:=a.out.Y4;have M:Hid (E (i.alloc (.cells #[j 0,j 0] 45)) d g c):=b6;have q:=l (fun W k=>afA d g c n W k);have o:=sJ n;have t:=OX c;unfold cJ;obtain⟨⟨⟨f,s,C⟩,H⟩,w⟩:∃G,G=bV c:=⟨_,rfl⟩;simp only[<-w]at q o t|-;try dsimp only at q o t|-
 obtain⟨h,L⟩:∃h:Nat,C=h:=⟨C.toNat,by omega⟩;subst L;simp only[dp]at|-;obtain⟨p,x⟩:=y (c.c.W8);have z:=n.ok.W8;simp only[<-x]at K z|-;have S:=g7 p h m m;have u:(p |||h)<4294967296:=ft p h 32 m m;obtain⟨T,hu⟩:=y (p |||h);simp only[<-hu]at S u|-;obtain⟨r,v⟩:=y (decide (f=0));have X:(f==0)=r:=by rw[v];by_cases k:f=0<;>simp[k]
 have D:=l (fun W k=>agf d g H o.1.ok r T u W k);simp only[<-v]at|-;unfold eE at *;clear a n w o t x z hu v u;go_enter func24,ntmps24;go_wp2_with fail;refine(q.out _ M).mono ?_;rintro R A ⟨rfl,O,b⟩;obtain⟨_,_,_,_,_,_,_,_,_,_,_,_⟩:av A i.heap.size 0 0:=ii;have P:=l (O.alloc (.cells #[j f,j s] 45));go_wp2_with fail;refine(D.out _ P).mono ?_;rintro R B ⟨rfl,Q,e⟩;obtain⟨_,_,_,_,_,_,_,_,_,_,_,_⟩:av B i.heap.size 0 0:=⟨ly,ly,G2,cd gT⟩;obtain⟨_,_,_,_,_,_,_,_,_,_,_,_⟩:av B A.heap.size f s:=⟨lz,lz,G3,cd gT⟩;go_wp2_with fail;refine ab (v:=.agg #[j f,j s]) (by simp[results,results24,go_sem, *]) rfl ⟨rfl,?_,?_⟩
 . repeat(first|(with_reducible exact Q)|(with_reducible refine E.alloc ?_ _)|(with_reducible refine E.drew ?_)|(with_reducible refine E.other _ _ _ ?_ m m))
 . exact pT
def gD :Nat->Nat->N->Nat×N
 |0,r,a=>(r,a)
 |b+1,r,a=>gD b (if(cJ a).1.1=0 then r+1 else r) (cJ a).2
def afu (c:Nat)(a:Int)(b:a<0\/4096<a)(e:D):
 O 62 #[I c,j a] (.tuple #[j 0,j 2]) e:=by
 rcases b with b|b
 . have d:decide (a<0)=true:=gZ;exact L3
 . have d:decide (a<0)=false:=M;have f:decide (a>4096)=true:=M;exact L3
def aft (m n:Nat)(g:N)(A:aj g)(a:Nat)(P:a<=4096)(w)(H:Hid (E w m n g)):
 an 62 #[I m,j a] (.tuple #[j (gD a 0 g).1,j 0]) [m,n] m n ((gD a 0 g).2) w:=by
 have R:decide ((a:Int)<0)=false:=bL;have S:decide ((a:Int)>4096)=false:=M;obtain⟨d,u⟩:=y (gD a 0 g);rw[<-u];have G:=l u;have F:=l A;clear u A;go_enter func62,ntmps62;go_wp2_with fail;go_loopw [6,7] (fun p t wr=>∃(r i:Nat) (c:N),i<=a/\r<=i/\p=j r/\t=j i/\Hid (aj c)/\Hid (E wr m n c)/\Hid (Kept [m,n] w wr)/\Hid (d=gD (a-i) r c)) (fun _ t _=>a- (intOf t).toNat);case atStart=>exact LG
 case round=>
  obtain⟨r,i,c,K,Q,rfl,rfl,v,h,f,e⟩:=hrel;clear G F H;by_cases L:i<a
  . have J:decide ((i:Int)< (a:Int))=true:=M;have k:Hid (d=gD (a- (i+1)) (if(cJ c).1.1=0 then r+1 else r) (cJ c).2):=by
     show d=_;rw[e.out,show a-i=(a- (i+1))+1 by omega];rfl
    clear e;have ST:=l (yn m n c v.out wr h);have q:=l (El v.out);obtain⟨⟨⟨s,p⟩,o⟩,C⟩:∃D,D=cJ c:=⟨_,rfl⟩;simp only[<-C]at ST q k;try dsimp only at ST q k
    unfold eE at ST;clear C v h;by_cases b:s=0
    . have x:Hid (d=gD (a- (i+1)) (r+1) o):=by show d=_;rw[k.out,B b]
      exact LC
    . have x:Hid (d=gD (a- (i+1)) r o):=by show d=_;rw[k.out,z b]
      exact LD
  . exact LF
end
end Go.Proofs.YtmlgonbhoknoiabGreatDoor
