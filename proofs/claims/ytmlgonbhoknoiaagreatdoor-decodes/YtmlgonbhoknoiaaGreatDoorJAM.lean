import Derived.Test.YtmlgonbhoknoiaaGreatDoorJAH
import Derived.Test.YtmlgonbhoknoiaaGreatDoorJAJ
import Derived.Test.YtmlgonbhoknoiaaGreatDoorJAK
set_option maxHeartbeats 8000000
set_option maxRecDepth 100000
set_option linter.all false
namespace Go.Proofs.YtmlgonbhoknoiaaGreatDoor
open Go.RowKit Go.Proofs.Tryz
section
attribute [local go_sem ↓] Go.wp_at_zero Go.wp_at_succ
def hR (a:P)(b:Int):Nat×P:=
 if b=0 then(if c:0<a.rx.size then(a.rx[0].toNat,{a with rx:=a.rx.extract 1 a.rx.size})else(0,a))
 else if b=1 then(a.enable,a)else if b=2 then(eO a,a)else if b=5 then(hV a,{a with lost:=false})else if b=7 then(a.Wr,a)else(0,a)
def ahK (a:P)(c:a.enable<8)(b:D):
 aE 344 #[bx a,j 1] (.tuple #[j a.enable,bx a]) b:=by
 unfold bx;try dsimp only
 go_enter mV,mW;go_upto_region 9 with fail;go_region_with fail;all_goals
  go_wp2_with fail;exact ac (v:=.tuple #[j a.enable,.agg #[j a.enable,j a.Wr,.bool a.lost,.string a.rx,.string a.Wc]]) ux rfl ⟨rfl,gp⟩
def ahM (a:P)(c:a.enable<8)(b:D):
 aE 344 #[bx a,j 7] (.tuple #[j a.Wr,bx a]) b:=by
 unfold bx;try dsimp only
 go_enter mV,mW;go_upto_region 17 with fail;go_region_with fail;all_goals
  go_wp2_with fail;exact ac (v:=.tuple #[j a.Wr,.agg #[j a.enable,j a.Wr,.bool a.lost,.string a.rx,.string a.Wc]]) ux rfl ⟨rfl,gp⟩
def ahL (a:P)(d:a.enable<8)(b:Int)(e:(b==0)=false)(f:(b==1)=false)(g:(b==2)=false)(h:(b==5)=false)(i:(b==7)=false)(c:D):
 aE 344 #[bx a,j b] (.tuple #[j 0,bx a]) c:=by
 unfold bx;try dsimp only
 go_enter mV,mW;go_upto_region 18 with fail;exact Jr
def ahO (b:P)(h:b.enable<8)(c:D):
 aE 344 #[bx b,j 2] (.tuple #[j (eO b),bx b]) c:=by
 have d:=fun c=>l (Fv b h c);obtain⟨m,f⟩:=y (eO b);simp only[<-f]at d|-;clear f;unfold bx at d;unfold bx;try dsimp only
 go_enter mV,mW;go_upto_region 11 with(go_at_call 258;refine(d _).out.mono ?_;rintro g k ⟨rfl,a⟩;obtain⟨i,f0⟩:=a.box c.heap.size aL F;obtain⟨e,f1⟩:=a.box (c.heap.size+1) aL F);go_region_with(go_at_call 258;refine(d _).out.mono ?_;rintro g k ⟨rfl,a⟩;obtain⟨i,f0⟩:=a.box c.heap.size aL F;obtain⟨e,f1⟩:=a.box (c.heap.size+1) aL F);all_goals
  go_wp2_with fail;exact ac (v:=.tuple #[j m,.agg #[j b.enable,j b.Wr,.bool b.lost,.string b.rx,.string b.Wc]]) FU rfl ⟨rfl,FV⟩
def ahN (b:P)(m:b.enable<8)(c:D):
 aE 344 #[bx b,j 5] (.tuple #[j (hV b),bx {b with lost:=false}]) c:=by
 have d:=fun c=>l (ahQ b c);obtain⟨k,f⟩:=y (hV b);simp only[<-f]at d|-;clear f;unfold bx at d;unfold bx;try dsimp only
 go_enter mV,mW;go_upto_region 15 with(go_at_call 380;refine(d _).out.mono ?_;rintro g i ⟨rfl,a⟩;obtain⟨h,f0⟩:=a.box c.heap.size aL F;obtain⟨e,f1⟩:=a.box (c.heap.size+1) aL F);go_region_with(go_at_call 380;refine(d _).out.mono ?_;rintro g i ⟨rfl,a⟩;obtain⟨h,f0⟩:=a.box c.heap.size aL F;obtain⟨e,f1⟩:=a.box (c.heap.size+1) aL F);all_goals
  go_wp2_with fail;exact ac (v:=.tuple #[j k,.agg #[j b.enable,j b.Wr,.bool false,.string b.rx,.string b.Wc]]) FU rfl ⟨rfl,FV⟩
def ahI (a:P)(d:a.enable<8)(b:a.rx.size=0)(c:D):
 aE 344 #[bx a,j 0] (.tuple #[j 0,bx a]) c:=by
 have e:a.rx.toList.isEmpty=true:=by rw[qr,b];rfl
 clear b;unfold bx;try dsimp only
 go_enter mV,mW;go_upto_region 4 with fail;exact Jr
def ahJ (a:P)(h:0<a.rx.size)(b:D):
 aE 344 #[bx a,j 0] (.tuple #[j (a.rx[0].toNat:Nat),bx {a with rx:=a.rx.extract 1 a.rx.size}]) b:=by
 have k:a.rx.toList.isEmpty=false:=by rw[qr,bd h];rfl
 obtain⟨e,c⟩:=y (a.rx.extract 1 a.rx.size);simp only[<-c];have l:∀b,(Instr.slice 9 (.string a.rx) (some (.int .i64 1)) none none).run prog b=.ok (.string e) b:=by
  intro b;rw[c,ua b 9 a.rx .i64 1 h5,B ⟨by omega,by omega⟩];simp
 have g:=gJ a.rx[0];obtain⟨f,d⟩:=y (a.rx[0].toNat);simp only[<-d]at g|-;have i:a.rx[0].toNat=f:=d.symm;clear d c;unfold bx;dsimp only;go_enter mV,mW;go_upto_region 7 with fail;go_region_with fail;all_goals
  go_wp2_with fail;exact ac (v:=.tuple #[j f,.agg #[j a.enable,j a.Wr,.bool a.lost,.string e,.string a.Wc]]) ux rfl ⟨rfl,gp⟩
def ahH (a:P)(d:a.enable<8)(b:Int)(c:D):
 aE 344 #[bx a,j b] (.tuple #[j ((hR a b).1:Nat),bx (hR a b).2]) c:=by
 by_cases e:b=0
 . subst e;by_cases k:0<a.rx.size
   . rw[show hR a 0=(a.rx[0].toNat,{a with rx:=a.rx.extract 1 a.rx.size})by unfold hR;simp[k]];exact ahJ a k c
   . rw[show hR a 0=(0,a)by unfold hR;simp[k]];exact ahI a d m c
 by_cases f:b=1
 . subst f;exact ahK a d c
 by_cases g:b=2
 . subst g;exact ahO a d c
 by_cases h:b=5
 . subst h;exact ahN a d c
 by_cases i:b=7
 . subst i;exact ahM a d c
 rw[show hR a b=(0,a)by unfold hR;simp[e,f,g,h,i]];exact ahL a d b (by simp[e]) (by simp[f]) (by simp[g]) (by simp[h]) (by simp[i]) c
end
def gr (b c a:Nat):Nat:=aI b a+(c&&&a)
def EH (b c a:Nat)(p:G b)(q:G c)(g:G a)(r:D):
 O 446 #[j b,j c,j a] (j (gr b c a)) r:=by
 have f:=l (tv b a p g);have d:=l (fB c a q g);have n:aI b a<=b:=Nat.sub_le _ _;have o:(c&&&a)<=a:=iQ;unfold gr;obtain⟨k,h⟩:=y (aI b a);obtain⟨m,i⟩:=y (c&&&a);rw[<-h]at f n|-;rw[<-i]at d o|-;have e:Hid (((k+m:Nat):Int)=(k:Int)+m):=ie;clear h i;go_enter func446,ntmps446;go_wp2_with fail;refine(f.out _).mono ?_;rintro s t ⟨rfl,rfl⟩;go_wp2_with fail;refine(d.out _).mono ?_;exact JX
def gt (a:Q)(b:P)(c:Int):Nat:=if c=836 then aI (bS a b) 512+(a.soft&&&512)else bD a b c
def abJ (i h p:Nat)(c:Q)(d:P)(L:ay c)(n:c.soft<=546)(w:d.enable<8)(f:Int)(e:D)(o:Hid (T e i h c))(x:Hid (ap e h p d)):
 aa 430 #[I i,j f] (j (gt c d f)) e:=by
 unfold gt;by_cases b:f=836
 . rw[B b];have M:(f==836)=true:=g0;clear b;have s:=l (qL i h p c d n w e o x);have C:=p5 c d n;have k:Hid (∀e,O 360 #[j (bS c d:Int),j 512] (j ((aI (bS c d) 512:Nat):Int)) e):=l (fun e=>tv (bS c d) 512 C m e);have r:Hid (∀e,O 323 #[j (c.soft:Int),j 512] (j ((c.soft&&&512:Nat):Int)) e):=l (fun e=>fB c.soft 512 m m e);have u:aI (bS c d) 512<=bS c d:=Nat.sub_le _ _;have K:(c.soft&&&512)<=512:=iQ;obtain⟨q,g⟩:=y (aI (bS c d) 512);obtain⟨H,E⟩:=y (c.soft&&&512);obtain⟨S,G⟩:=y (bS c d);rw[<-g]at k u|-;rw[<-E]at r K|-;rw[<-G]at k s u C;have J:Hid (((q+H:Nat):Int)=(q:Int)+H):=ie;clear g E G;go_enter func430,ntmps430;go_wp2_with fail;refine s.out.mono ?_;rintro v R ⟨rfl,A⟩;have d29:=(o.out.more (Below.kept A []) F).X5;go_wp2_with fail;refine(k.out _).mono ?_;rintro v N ⟨rfl,rfl⟩;go_wp2_with fail;refine(r.out _).mono ?_;rintro v N ⟨rfl,rfl⟩;go_wp2_with fail;go_ret;exact⟨by rw[J.out]<;>rfl,A⟩
 . rw[z b];have M:(f==836)=false:=g0;have t:=l (xU i h p c d L n w f e o x);obtain⟨q,g⟩:=y (bD c d f);rw[<-g]at t|-;clear b g;go_enter func430,ntmps430;go_wp2_with fail;refine t.out.mono ?_;exact z8
def iO (b:Q)(a:Nat):Q:={b with Ws:=a/2^1%2,WC:=a/2^5%2,WM:=a/2^8%2,sum:=a/2^18%2,WT:=a/2^19%2}
def ER (h r:Nat)(d:Q)(a:Nat)(g:G a)(b:D)(e:Hid (T b h r d)):
 Calls prog 445 #[I h,j a] b fun f i=>f=.returned (.tuple #[])/\T i h r (iO d a)/\Kept [h] b i:=by
 obtain⟨-,B,C⟩:=e.out;have c2:=e.out.c2;have k:Hid (∀b,O 315 #[j (a:Int),j 1] (j ((a/2^1%2:Nat):Int)) b):=l (fun b=>e7 a 1 g m b);have c4:=e.out.c4;have p:Hid (∀b,O 315 #[j (a:Int),j 5] (j ((a/2^5%2:Nat):Int)) b):=l (fun b=>e7 a 5 g m b);have z:=e.out.W4;have q:Hid (∀b,O 315 #[j (a:Int),j 8] (j ((a/2^8%2:Nat):Int)) b):=l (fun b=>e7 a 8 g m b);have A:=e.out.Xi;have n:Hid (∀b,O 315 #[j (a:Int),j 18] (j ((a/2^18%2:Nat):Int)) b):=l (fun b=>e7 a 18 g m b);have x:=e.out.Xt;have o:Hid (∀b,O 315 #[j (a:Int),j 19] (j ((a/2^19%2:Nat):Int)) b):=l (fun b=>e7 a 19 g m b);have c:=l ((((((e.out.set (C':={d with Ws:=a/2^1%2}) 2 (j ((a/2^1%2:Nat):Int)) rfl m).set (C':={d with Ws:=a/2^1%2,WC:=a/2^5%2}) 4 (j ((a/2^5%2:Nat):Int)) rfl m).set (C':={d with Ws:=a/2^1%2,WC:=a/2^5%2,WM:=a/2^8%2}) 6 (j ((a/2^8%2:Nat):Int)) rfl m).set (C':={d with Ws:=a/2^1%2,WC:=a/2^5%2,WM:=a/2^8%2,sum:=a/2^18%2}) 9 (j ((a/2^18%2:Nat):Int)) rfl m).set (C':=iO d a) 10 (j ((a/2^19%2:Nat):Int)) rfl m));obtain⟨M,s⟩:=y (a/2^1%2);rw[<-s]at k c;obtain⟨R,v⟩:=y (a/2^5%2);rw[<-v]at p c;obtain⟨S,w⟩:=y (a/2^8%2);rw[<-w]at q c;obtain⟨N,t⟩:=y (a/2^18%2);rw[<-t]at n c;obtain⟨P,u⟩:=y (a/2^19%2);rw[<-u]at o c;clear s v w t u;go_enter func445,ntmps445;go_wp2_with fail;refine(k.out _).mono ?_;rintro f E ⟨rfl,rfl⟩;go_wp2_with fail;refine(p.out _).mono ?_;rintro f K ⟨rfl,rfl⟩;go_wp2_with fail;refine(q.out _).mono ?_;rintro f L ⟨rfl,rfl⟩;go_wp2_with fail;refine(n.out _).mono ?_;rintro f H ⟨rfl,rfl⟩;go_wp2_with fail;refine(o.out _).mono ?_;rintro f J ⟨rfl,rfl⟩;exact I2
def qR (b:Q)(a:Nat):Q:={iO b a with Wd:=a/2^3%2,Wq:=a/2^7%2,WJ:=a/2^17%2,WL:=a/2^20%2,WS:=a/2^21%2,WX:=a/2^22%2}
def mI (b:Q)(a:Nat):Q:=if a/2048%4=2 then qR b a else{qR b a with Wl:=a/2048%4}
def afb (o u:Nat)(n:Q)(a:Nat)(i:G a)(b:D)(am:Hid (T b o u n)):
 Calls prog 447 #[I o,j a] b fun v x=>v=.returned (.tuple #[])/\T x o u (mI n a)/\Kept [o] b x:=by
 have s:=l (ER o u n a i b am);obtain⟨e,w⟩:=y (iO n a);have H:qR n a={e with Wd:=a/2^3%2,Wq:=a/2^7%2,WJ:=a/2^17%2,WL:=a/2^20%2,WS:=a/2^21%2,WX:=a/2^22%2}:=by rw[w];rfl
 rw[<-w]at s;have A:=l H;clear w H;have Z:Hid (∀b,O 315 #[j (a:Int),j 3] (j ((a/2^3%2:Nat):Int)) b):=l (fun b=>e7 a 3 i m b);have aa:Hid (∀b,O 315 #[j (a:Int),j 7] (j ((a/2^7%2:Nat):Int)) b):=l (fun b=>e7 a 7 i m b);have V:Hid (∀b,O 315 #[j (a:Int),j 17] (j ((a/2^17%2:Nat):Int)) b):=l (fun b=>e7 a 17 i m b);have W:Hid (∀b,O 315 #[j (a:Int),j 20] (j ((a/2^20%2:Nat):Int)) b):=l (fun b=>e7 a 20 i m b);have X:Hid (∀b,O 315 #[j (a:Int),j 21] (j ((a/2^21%2:Nat):Int)) b):=l (fun b=>e7 a 21 i m b);have Y:Hid (∀b,O 315 #[j (a:Int),j 22] (j ((a/2^22%2:Nat):Int)) b):=l (fun b=>e7 a 22 i m b);have d1:(a:Int).tdiv 2048=((a/2048:Nat):Int):=sQ a 2048;have U:((a/2048:Nat):Int).tmod 4=((a/2048%4:Nat):Int):=iy (a/2048) 4;have ad:a/2048%4<4:=J;have ae:a/2048<=a:=kf;unfold mI;rw[A.out];obtain⟨d,R⟩:=y (a/2^3%2);obtain⟨f,S⟩:=y (a/2^7%2);obtain⟨g,K⟩:=y (a/2^17%2);obtain⟨h,L⟩:=y (a/2^20%2);obtain⟨k,N⟩:=y (a/2^21%2);obtain⟨q,P⟩:=y (a/2^22%2);rw[<-R]at Z|-;rw[<-S]at aa|-;rw[<-K]at V|-;rw[<-L]at W|-;rw[<-N]at X|-;rw[<-P]at Y|-;obtain⟨p,C⟩:=y (a/2048%4);rw[<-C]at U ad|-;obtain⟨ap,E⟩:=y (a/2048);rw[<-E]at d1 U ae;clear C E A R S K L N P;by_cases r:p=2
 . rw[B r];have an:((p:Int) !=2)=false:=M;clear r;go_enter func447,ntmps447;go_wp2_with fail;refine s.out.mono ?_;rintro v ao ⟨rfl,c,t⟩;have ab:=l t;obtain⟨-,ak,al⟩:=id c;have c3:=c.c3;have c5:=c.c5;have aj:=c.Xj;have af:=c.XO;have ag:=c.X1;have ah:=c.X2;have ai:=c.W5;have ac:=l ((((((c.set (C':={e with Wd:=d}) 3 (j (d:Int)) rfl m).set (C':={e with Wd:=d,Wq:=f}) 5 (j (f:Int)) rfl m).set (C':={e with Wd:=d,Wq:=f,WJ:=g}) 8 (j (g:Int)) rfl m).set (C':={e with Wd:=d,Wq:=f,WJ:=g,WL:=h}) 11 (j (h:Int)) rfl m).set (C':={e with Wd:=d,Wq:=f,WJ:=g,WL:=h,WS:=k}) 12 (j (k:Int)) rfl m).set (C':={e with Wd:=d,Wq:=f,WJ:=g,WL:=h,WS:=k,WX:=q}) 13 (j (q:Int)) rfl m);exact JY
 . rw[z r];have an:((p:Int) !=2)=true:=M;clear r;go_enter func447,ntmps447;go_wp2_with fail;refine s.out.mono ?_;rintro v ao ⟨rfl,c,t⟩;have ab:=l t;obtain⟨-,ak,al⟩:=id c;have c3:=c.c3;have c5:=c.c5;have aj:=c.Xj;have af:=c.XO;have ag:=c.X1;have ah:=c.X2;have ai:=c.W5;have ac:=l (((((((c.set (C':={e with Wd:=d}) 3 (j (d:Int)) rfl m).set (C':={e with Wd:=d,Wq:=f}) 5 (j (f:Int)) rfl m).set (C':={e with Wd:=d,Wq:=f,WJ:=g}) 8 (j (g:Int)) rfl m).set (C':={e with Wd:=d,Wq:=f,WJ:=g,WL:=h}) 11 (j (h:Int)) rfl m).set (C':={e with Wd:=d,Wq:=f,WJ:=g,WL:=h,WS:=k}) 12 (j (k:Int)) rfl m).set (C':={e with Wd:=d,Wq:=f,WJ:=g,WL:=h,WS:=k,WX:=q}) 13 (j (q:Int)) rfl m).set (C':={{e with Wd:=d,Wq:=f,WJ:=g,WL:=h,WS:=k,WX:=q}with Wl:=p}) 7 (j (p:Int)) rfl m);exact JY
def cf (a:Q)(c:Int)(b:Nat):Q:=
 if c=256 then iO a b else
 if c=260 then{a with enable:=gr a.enable b a.V9}else
 if c=261 then{a with WH:=b-b/2%2*2}else
 if c=262 then{a with WA:=b%8}else
 if c=320 then{a with WR:=b}else
 if c=321 then{a with Wu:=b-b%2}else
 if c=322 then{a with WD:=b}else
 if c=323 then{a with WI:=b}else
 if c=324 then{a with soft:=gr a.soft b (a.V9&&&2)}else
 if c=384 then{a with Wf:=b}else
 if c=768 then mI a b else
 if c=770 then{a with WG:=b&&&46079}else
 if c=771 then{a with V9:=b&&&546}else
 if c=772 then{a with enable:=b&&&2730}else
 if c=773 then{a with Wz:=b-b/2%2*2}else
 if c=774 then{a with Wp:=b%8}else
 if c=800 then{a with Xf:=b&&&5}else
 if c=832 then{a with WK:=b}else
 if c=833 then{a with Wm:=b-b%2}else
 if c=834 then{a with Wx:=b}else
 if c=835 then{a with WB:=b}else
 if c=836 then{a with soft:=b&&&546}else
 if c=2816 then{a with Wa:=b,W6:=true}else
 if c=2944 then{a with Wg:=b,W6:=true}else
 if c=2818 then{a with ret:=b,W7:=true}else
 if c=2946 then{a with We:=b,W7:=true}else
 a
def ad8 (b e:Nat)(a:Q)(o:ay a)(c:Nat)(k:G c)(d:D)(m:Hid (T d b e a)):
 Calls prog 431 #[I b,j 256,j c] d fun i h=>i=.returned (.tuple #[])/\T h b e (iO a c)/\Kept [b] d h:=by
 have f:=l (ER b e a c k d m);obtain⟨n,g⟩:=y (iO a c);exact JZ
def ad5 (c i:Nat)(a:Q)(n:ay a)(b:Nat)(p:G b)(e:D)(d:Hid (T e c i a)):
 Calls prog 431 #[I c,j 260,j b] e fun k f=>k=.returned (.tuple #[])/\T f c i ({a with enable:=gr a.enable b a.V9})/\Kept [c] e f:=by
 have s:=d.out.Wb;have q:=d.out.XB;have r:=d.out.XI;have g:=l (EH a.enable b a.V9 n.enable p n.V9);have h:=l ((d.out.more (Below.kept (aq _ _).drew []) F).set (C':={a with enable:=gr a.enable b a.V9}) 28 (j (gr a.enable b a.V9:Nat)) rfl m);obtain⟨u,o⟩:=y (gr a.enable b a.V9);rw[<-o]at g h|-;clear o;go_enter oJ,oK;go_upto_region 4 with fail;go_region_with(go_at_call 446;refine(g.out _).mono ?_;rintro k t ⟨rfl,rfl⟩);all_goals (go_wp2_with fail;go_end0;refine⟨rfl,h.out,?_⟩;repeat(first|with_reducible exact Kept.refl _ _|(with_reducible refine Kept.setCell ?_ (.inl F) _)|(with_reducible refine Kept.drew ?_)))
def aea (d i:Nat)(c:Q)(o:ay c)(b:Nat)(r:G b)(f:D)(e:Hid (T f d i c)):
 Calls prog 431 #[I d,j 261,j b] f fun n h=>n=.returned (.tuple #[])/\T h d i ({c with WH:=b-b/2%2*2})/\Kept [d] f h:=by
 have q:=e.out.Wb;have p:=e.out.Yh;have a:=l (e.out.set (C':={c with WH:=b-b/2%2*2}) 20 (j ((b-b/2%2*2:Nat):Int)) rfl m);exact J0
def ad3 (d h:Nat)(c:Q)(n:ay c)(b:Nat)(o:G b)(f:D)(e:Hid (T f d h c)):
 Calls prog 431 #[I d,j 262,j b] f fun k g=>k=.returned (.tuple #[])/\T g d h ({c with WA:=b%8})/\Kept [d] f g:=by
 have q:=e.out.Wb;have p:=e.out.Yk;have a:=l (e.out.set (C':={c with WA:=b%8}) 25 (j ((b%8:Nat):Int)) rfl m);exact J1
def ad7 (d h:Nat)(c:Q)(k:ay c)(b:Nat)(n:G b)(f:D)(e:Hid (T f d h c)):
 Calls prog 431 #[I d,j 320,j b] f fun i g=>i=.returned (.tuple #[])/\T g d h ({c with WR:=b})/\Kept [d] f g:=by
 have p:=e.out.Wb;have o:=e.out.Yt;have a:=l (e.out.set (C':={c with WR:=b}) 21 (j (b:Int)) rfl m);exact gZ
def ad4 (d i:Nat)(c:Q)(n:ay c)(b:Nat)(q:G b)(f:D)(e:Hid (T f d i c)):
 Calls prog 431 #[I d,j 321,j b] f fun k h=>k=.returned (.tuple #[])/\T h d i ({c with Wu:=b-b%2})/\Kept [d] f h:=by
 have p:=e.out.Wb;have o:=e.out.X4;have a:=l (e.out.set (C':={c with Wu:=b-b%2}) 22 (j ((b-b%2:Nat):Int)) rfl m);exact J2
def ad2 (d h:Nat)(c:Q)(k:ay c)(b:Nat)(n:G b)(f:D)(e:Hid (T f d h c)):
 Calls prog 431 #[I d,j 322,j b] f fun i g=>i=.returned (.tuple #[])/\T g d h ({c with WD:=b})/\Kept [d] f g:=by
 have p:=e.out.Wb;have o:=e.out.Yi;have a:=l (e.out.set (C':={c with WD:=b}) 23 (j (b:Int)) rfl m);exact gZ
def ad9 (d h:Nat)(c:Q)(k:ay c)(b:Nat)(n:G b)(f:D)(e:Hid (T f d h c)):
 Calls prog 431 #[I d,j 323,j b] f fun i g=>i=.returned (.tuple #[])/\T g d h ({c with WI:=b})/\Kept [d] f g:=by
 have p:=e.out.Wb;have o:=e.out.Yj;have a:=l (e.out.set (C':={c with WI:=b}) 24 (j (b:Int)) rfl m);exact gZ
def ad6 (e k:Nat)(b:Q)(o:ay b)(c:Nat)(r:G c)(d:D)(f:Hid (T d e k b)):
 Calls prog 431 #[I e,j 324,j c] d fun n h=>n=.returned (.tuple #[])/\T h e k ({b with soft:=gr b.soft c (b.V9&&&2)})/\Kept [e] d h:=by
 obtain⟨-,u,v⟩:=f.out;have s:=f.out.XB;have t:=f.out.X5;have i:Hid (∀d,O 323 #[j (b.V9:Int),j 2] (j ((b.V9&&&2:Nat):Int)) d):=l (fun d=>fB b.V9 2 o.V9 m d);have g:=l (EH b.soft c (b.V9&&&2) o.soft r (v6 _ _ m));have a:=l (f.out.set (C':={b with soft:=gr b.soft c (b.V9&&&2)}) 29 (j (gr b.soft c (b.V9&&&2):Nat)) rfl m);obtain⟨x,p⟩:=y (gr b.soft c (b.V9&&&2));rw[<-p]at g a|-;obtain⟨z,q⟩:=y (b.V9&&&2);rw[<-q]at i g;clear p q;go_enter oJ,oK;go_wp2_with fail;refine(i.out _).mono ?_;rintro n w ⟨rfl,rfl⟩;go_wp2_with fail;refine(g.out _).mono ?_;exact akh
def ad1 (d h:Nat)(c:Q)(k:ay c)(b:Nat)(n:G b)(f:D)(e:Hid (T f d h c)):
 Calls prog 431 #[I d,j 384,j b] f fun i g=>i=.returned (.tuple #[])/\T g d h ({c with Wf:=b})/\Kept [d] f g:=by
 have p:=e.out.Wb;have o:=e.out.X6;have a:=l (e.out.set (C':={c with Wf:=b}) 31 (j (b:Int)) rfl m);exact gZ
def adY (b e:Nat)(a:Q)(o:ay a)(c:Nat)(k:G c)(d:D)(m:Hid (T d b e a)):
 Calls prog 431 #[I b,j 768,j c] d fun i h=>i=.returned (.tuple #[])/\T h b e (mI a c)/\Kept [b] d h:=by
 have f:=l (afb b e a c k d m);obtain⟨n,g⟩:=y (mI a c);exact JZ
def adQ (g k:Nat)(f:Q)(p:ay f)(b:Nat)(o:G b)(c:D)(h:Hid (T c g k f)):
 Calls prog 431 #[I g,j 770,j b] c fun n i=>n=.returned (.tuple #[])/\T i g k ({f with WG:=b&&&46079})/\Kept [g] c i:=by
 obtain⟨-,r,s⟩:=h.out;have q:=h.out.Yl;have a:=l (h.out.set (C':={f with WG:=b&&&46079}) 26 (j ((b&&&46079:Nat):Int)) rfl m);have d:Hid (∀c,O 323 #[j (b:Int),j 46079] (j ((b&&&46079:Nat):Int)) c):=l (fun c=>fB b 46079 o m c);obtain⟨t,e⟩:=y (b&&&46079);exact vv
def adS (f n:Nat)(c:Q)(q:ay c)(b:Nat)(o:G b)(h:D)(g:Hid (T h f n c)):
 Calls prog 431 #[I f,j 771,j b] h fun p k=>p=.returned (.tuple #[])/\T k f n ({c with V9:=b&&&546})/\Kept [f] h k:=by
 obtain⟨-,s,t⟩:=g.out;have r:=g.out.XB;have a:=l (g.out.set (C':={c with V9:=b&&&546}) 27 (j ((b&&&546:Nat):Int)) rfl m);exact J3
def adT (g k:Nat)(f:Q)(p:ay f)(b:Nat)(o:G b)(c:D)(h:Hid (T c g k f)):
 Calls prog 431 #[I g,j 772,j b] c fun n i=>n=.returned (.tuple #[])/\T i g k ({f with enable:=b&&&2730})/\Kept [g] c i:=by
 obtain⟨-,r,s⟩:=h.out;have q:=h.out.XI;have a:=l (h.out.set (C':={f with enable:=b&&&2730}) 28 (j ((b&&&2730:Nat):Int)) rfl m);have d:Hid (∀c,O 323 #[j (b:Int),j 2730] (j ((b&&&2730:Nat):Int)) c):=l (fun c=>fB b 2730 o m c);obtain⟨t,e⟩:=y (b&&&2730);exact vv
def ad0 (d i:Nat)(c:Q)(o:ay c)(b:Nat)(r:G b)(f:D)(e:Hid (T f d i c)):
 Calls prog 431 #[I d,j 773,j b] f fun n h=>n=.returned (.tuple #[])/\T h d i ({c with Wz:=b-b/2%2*2})/\Kept [d] f h:=by
 have q:=e.out.Wb;have p:=e.out.Yd;have a:=l (e.out.set (C':={c with Wz:=b-b/2%2*2}) 14 (j ((b-b/2%2*2:Nat):Int)) rfl m);exact J0
def adM (d h:Nat)(c:Q)(n:ay c)(b:Nat)(o:G b)(f:D)(e:Hid (T f d h c)):
 Calls prog 431 #[I d,j 774,j b] f fun k g=>k=.returned (.tuple #[])/\T g d h ({c with Wp:=b%8})/\Kept [d] f g:=by
 have q:=e.out.Wb;have p:=e.out.Yg;have a:=l (e.out.set (C':={c with Wp:=b%8}) 19 (j ((b%8:Nat):Int)) rfl m);exact J1
def adN (g k:Nat)(f:Q)(p:ay f)(b:Nat)(o:G b)(c:D)(h:Hid (T c g k f)):
 Calls prog 431 #[I g,j 800,j b] c fun n i=>n=.returned (.tuple #[])/\T i g k ({f with Xf:=b&&&5})/\Kept [g] c i:=by
 obtain⟨-,r,s⟩:=h.out;have q:=h.out.Ym;have a:=l (h.out.set (C':={f with Xf:=b&&&5}) 30 (j ((b&&&5:Nat):Int)) rfl m);have d:Hid (∀c,O 323 #[j (b:Int),j 5] (j ((b&&&5:Nat):Int)) c):=l (fun c=>fB b 5 o m c);obtain⟨t,e⟩:=y (b&&&5);exact vv
def adX (d h:Nat)(c:Q)(k:ay c)(b:Nat)(n:G b)(f:D)(e:Hid (T f d h c)):
 Calls prog 431 #[I d,j 832,j b] f fun i g=>i=.returned (.tuple #[])/\T g d h ({c with WK:=b})/\Kept [d] f g:=by
 have p:=e.out.Wb;have o:=e.out.Ys;have a:=l (e.out.set (C':={c with WK:=b}) 15 (j (b:Int)) rfl m);exact gZ
def adR (d i:Nat)(c:Q)(n:ay c)(b:Nat)(q:G b)(f:D)(e:Hid (T f d i c)):
 Calls prog 431 #[I d,j 833,j b] f fun k h=>k=.returned (.tuple #[])/\T h d i ({c with Wm:=b-b%2})/\Kept [d] f h:=by
 have p:=e.out.Wb;have o:=e.out.X3;have a:=l (e.out.set (C':={c with Wm:=b-b%2}) 16 (j ((b-b%2:Nat):Int)) rfl m);exact J2
def adL (d h:Nat)(c:Q)(k:ay c)(b:Nat)(n:G b)(f:D)(e:Hid (T f d h c)):
 Calls prog 431 #[I d,j 834,j b] f fun i g=>i=.returned (.tuple #[])/\T g d h ({c with Wx:=b})/\Kept [d] f g:=by
 have p:=e.out.Wb;have o:=e.out.Ye;have a:=l (e.out.set (C':={c with Wx:=b}) 17 (j (b:Int)) rfl m);exact gZ
def adZ (d h:Nat)(c:Q)(k:ay c)(b:Nat)(n:G b)(f:D)(e:Hid (T f d h c)):
 Calls prog 431 #[I d,j 835,j b] f fun i g=>i=.returned (.tuple #[])/\T g d h ({c with WB:=b})/\Kept [d] f g:=by
 have p:=e.out.Wb;have o:=e.out.Yf;have a:=l (e.out.set (C':={c with WB:=b}) 18 (j (b:Int)) rfl m);exact gZ
def adW (f n:Nat)(c:Q)(q:ay c)(b:Nat)(o:G b)(h:D)(g:Hid (T h f n c)):
 Calls prog 431 #[I f,j 836,j b] h fun p k=>p=.returned (.tuple #[])/\T k f n ({c with soft:=b&&&546})/\Kept [f] h k:=by
 obtain⟨-,s,t⟩:=g.out;have r:=g.out.X5;have a:=l (g.out.set (C':={c with soft:=b&&&546}) 29 (j ((b&&&546:Nat):Int)) rfl m);exact J3
def adO (d h:Nat)(c:Q)(k:ay c)(b:Nat)(n:G b)(f:D)(e:Hid (T f d h c)):
 Calls prog 431 #[I d,j 2816,j b] f fun i g=>i=.returned (.tuple #[])/\T g d h ({c with Wa:=b,W6:=true})/\Kept [d] f g:=by
 have q:=e.out.Wb;have o:=e.out.Ya;have p:=e.out.XC;have a:=l ((e.out.set (C':={c with Wa:=b}) 32 (j (b:Int)) rfl m).set (C':={c with Wa:=b,W6:=true}) 37 (.bool true) rfl m);exact gZ
def adP (d h:Nat)(c:Q)(k:ay c)(b:Nat)(n:G b)(f:D)(e:Hid (T f d h c)):
 Calls prog 431 #[I d,j 2944,j b] f fun i g=>i=.returned (.tuple #[])/\T g d h ({c with Wg:=b,W6:=true})/\Kept [d] f g:=by
 have q:=e.out.Wb;have o:=e.out.Xk;have p:=e.out.XC;have a:=l ((e.out.set (C':={c with Wg:=b}) 33 (j (b:Int)) rfl m).set (C':={c with Wg:=b,W6:=true}) 37 (.bool true) rfl m);exact gZ
def adU (d h:Nat)(c:Q)(k:ay c)(b:Nat)(n:G b)(f:D)(e:Hid (T f d h c)):
 Calls prog 431 #[I d,j 2818,j b] f fun i g=>i=.returned (.tuple #[])/\T g d h ({c with ret:=b,W7:=true})/\Kept [d] f g:=by
 have q:=e.out.Wb;have o:=e.out.Xl;have p:=e.out.Xm;have a:=l ((e.out.set (C':={c with ret:=b}) 34 (j (b:Int)) rfl m).set (C':={c with ret:=b,W7:=true}) 38 (.bool true) rfl m);exact gZ
def adV (d h:Nat)(c:Q)(k:ay c)(b:Nat)(n:G b)(f:D)(e:Hid (T f d h c)):
 Calls prog 431 #[I d,j 2946,j b] f fun i g=>i=.returned (.tuple #[])/\T g d h ({c with We:=b,W7:=true})/\Kept [d] f g:=by
 have q:=e.out.Wb;have o:=e.out.Xq;have p:=e.out.Xm;have a:=l ((e.out.set (C':={c with We:=b}) 35 (j (b:Int)) rfl m).set (C':={c with We:=b,W7:=true}) 38 (.bool true) rfl m);exact gZ
def aeb (c g:Nat)(f:Q)(b:Int)(i:Nat)(k:(b==256)=false)(l:(b==260)=false)(w:(b==261)=false)(E:(b==262)=false)(F:(b==320)=false)(G:(b==321)=false)(H:(b==322)=false)(J:(b==323)=false)(K:(b==324)=false)(L:(b==384)=false)(m:(b==768)=false)(n:(b==770)=false)(o:(b==771)=false)(p:(b==772)=false)(q:(b==773)=false)(r:(b==774)=false)(s:(b==800)=false)(t:(b==832)=false)(u:(b==833)=false)(v:(b==834)=false)(x:(b==835)=false)(y:(b==836)=false)(z:(b==2816)=false)(A:(b==2944)=false)(B:(b==2818)=false)(C:(b==2946)=false)(d:D)(a:Hid (T d c g f)):
 Calls prog 431 #[I c,j b,j i] d fun h e=>h=.returned (.tuple #[])/\T e c g f/\Kept [c] d e:=by
 go_enter oJ,oK;exact vl
def adK (a e:Nat)(b:Q)(h:ay b)(f:Int)(c:Nat)(i:G c)(d:D)(g:Hid (T d a e b)):
 Calls prog 431 #[I a,j f,j c] d fun R P=>R=.returned (.tuple #[])/\T P a e (cf b f c)/\Kept [a] d P:=by
 unfold cf;by_cases k:f=256
 . subst k;rw[B rfl];exact ad8 a e b h c i d g
 rw[z k];by_cases l:f=260
 . subst l;rw[B rfl];exact ad5 a e b h c i d g
 rw[z l];by_cases w:f=261
 . subst w;rw[B rfl];exact aea a e b h c i d g
 rw[z w];by_cases H:f=262
 . subst H;rw[B rfl];exact ad3 a e b h c i d g
 rw[z H];by_cases J:f=320
 . subst J;rw[B rfl];exact ad7 a e b h c i d g
 rw[z J];by_cases K:f=321
 . subst K;rw[B rfl];exact ad4 a e b h c i d g
 rw[z K];by_cases L:f=322
 . subst L;rw[B rfl];exact ad2 a e b h c i d g
 rw[z L];by_cases M:f=323
 . subst M;rw[B rfl];exact ad9 a e b h c i d g
 rw[z M];by_cases N:f=324
 . subst N;rw[B rfl];exact ad6 a e b h c i d g
 rw[z N];by_cases O:f=384
 . subst O;rw[B rfl];exact ad1 a e b h c i d g
 rw[z O];by_cases m:f=768
 . subst m;rw[B rfl];exact adY a e b h c i d g
 rw[z m];by_cases n:f=770
 . subst n;rw[B rfl];exact adQ a e b h c i d g
 rw[z n];by_cases o:f=771
 . subst o;rw[B rfl];exact adS a e b h c i d g
 rw[z o];by_cases p:f=772
 . subst p;rw[B rfl];exact adT a e b h c i d g
 rw[z p];by_cases q:f=773
 . subst q;rw[B rfl];exact ad0 a e b h c i d g
 rw[z q];by_cases r:f=774
 . subst r;rw[B rfl];exact adM a e b h c i d g
 rw[z r];by_cases s:f=800
 . subst s;rw[B rfl];exact adN a e b h c i d g
 rw[z s];by_cases t:f=832
 . subst t;rw[B rfl];exact adX a e b h c i d g
 rw[z t];by_cases u:f=833
 . subst u;rw[B rfl];exact adR a e b h c i d g
 rw[z u];by_cases v:f=834
 . subst v;rw[B rfl];exact adL a e b h c i d g
 rw[z v];by_cases x:f=835
 . subst x;rw[B rfl];exact adZ a e b h c i d g
 rw[z x];by_cases y:f=836
 . subst y;rw[B rfl];exact adW a e b h c i d g
 rw[z y];by_cases A:f=2816
 . subst A;rw[B rfl];exact adO a e b h c i d g
 rw[z A];by_cases C:f=2944
 . subst C;rw[B rfl];exact adP a e b h c i d g
 rw[z C];by_cases E:f=2818
 . subst E;rw[B rfl];exact adU a e b h c i d g
 rw[z E];by_cases F:f=2946
 . subst F;rw[B rfl];exact adV a e b h c i d g
 rw[z F];exact aeb a e b f c (by simp[k]) (by simp[l]) (by simp[w]) (by simp[H]) (by simp[J]) (by simp[K]) (by simp[L]) (by simp[M]) (by simp[N]) (by simp[O]) (by simp[m]) (by simp[n]) (by simp[o]) (by simp[p]) (by simp[q]) (by simp[r]) (by simp[s]) (by simp[t]) (by simp[u]) (by simp[v]) (by simp[x]) (by simp[y]) (by simp[A]) (by simp[C]) (by simp[E]) (by simp[F]) d g
def qA (a:Q)(b c d:Nat):Q:={a with WD:=b,Wu:=c,WI:=d,WC:=a.Ws,Ws:=0,WM:=a.mode,mode:=1}
def qz (a:Q)(b c d:Nat):Q:={a with Wx:=b,Wm:=c,WB:=d,Wq:=a.Wd,Wd:=0,Wl:=a.mode,mode:=3}
def qE (a:Q)(b:Nat)(c:Bool):Bool:=if decide (a.mode<=1)=true then decide ((if c=true then a.V9 else a.WG)/2^b%2=1)else false
def qy (a:Nat)(b:Bool):Nat:=if b=true then a+2147483648 else a
def hW (a:Q)(b:Nat)(c:Bool)(d e:Nat):Q:=if qE a b c=true then qA a (qy b c) d e else qz a (qy b c) d e
def hX (a:Q)(b:Nat)(c:Bool):Nat:=if qE a b c=true then kK a.WH b c else kK a.Wz b c
def ED (e p:Nat)(a:Q)(n:ay a)(d:Nat)(am:d<=31)(i:Bool)(f g:Nat)(o:D)(c:Hid (T o e p a)):
 Calls prog 313 #[I e,j d,.bool i,j f,j g] o fun k v=>k=.returned (j (hX a d i))/\T v e p (hW a d i f g)/\Kept [e] o v:=by
 have P:=n.WG;have R:=n.V9;have U:=n.WH;have S:=n.Wz;have c1:=c.out.c1;have c2:=c.out.c2;have c3:=c.out.c3;have c4:=c.out.c4;have c5:=c.out.c5;have aj:=c.out.W4;have ak:=c.out.W5;have Z:=c.out.Yd;have aa:=c.out.X3;have ab:=c.out.Ye;have ac:=c.out.Yf;have ad:=c.out.Yh;have ae:=c.out.X4;have af:=c.out.Yi;have ag:=c.out.Yj;have ah:=c.out.Yl;have ai:=c.out.XB;have al:=c.out.Wb;have an:=c.out.lt;have V:decide ((a.mode:Int)<=1)=decide (a.mode<=1):=ij;have M:=l (EK a.Wz S d m m i);have w:=l (EK a.WH U d m m i);have t:=l (e7 a.WG d P m);have u:=l (e7 a.V9 d R m);unfold hX hW qE qy;have K:=i9 (a.WG/2^d%2);have L:=i9 (a.V9/2^d%2);have hS:∀b:Nat,Hid (T (((((((o.setCell ⟨e,23,none⟩ (j b)).setCell ⟨e,22,none⟩ (j f)).setCell ⟨e,24,none⟩ (j g)).setCell ⟨e,4,none⟩ (j a.Ws)).setCell ⟨e,2,none⟩ (j 0)).setCell ⟨e,6,none⟩ (j a.mode)).setCell ⟨e,1,none⟩ (j 1)) e p (qA a b f g)):=fun b=>l (((((((c.out.set (C':={a with WD:=b}) 23 _ rfl m).set (C':={a with WD:=b,Wu:=f}) 22 _ rfl m).set (C':={a with WD:=b,Wu:=f,WI:=g}) 24 _ rfl m).set (C':={a with WD:=b,Wu:=f,WI:=g,WC:=a.Ws}) 4 _ rfl m).set (C':={a with WD:=b,Wu:=f,WI:=g,WC:=a.Ws,Ws:=0}) 2 _ rfl m).set (C':={a with WD:=b,Wu:=f,WI:=g,WC:=a.Ws,Ws:=0,WM:=a.mode}) 6 _ rfl m).set (C':=qA a b f g) 1 _ rfl m);have s:∀b:Nat,Hid (T (((((((o.setCell ⟨e,17,none⟩ (j b)).setCell ⟨e,16,none⟩ (j f)).setCell ⟨e,18,none⟩ (j g)).setCell ⟨e,5,none⟩ (j a.Wd)).setCell ⟨e,3,none⟩ (j 0)).setCell ⟨e,7,none⟩ (j a.mode)).setCell ⟨e,1,none⟩ (j 3)) e p (qz a b f g)):=fun b=>l (((((((c.out.set (C':={a with Wx:=b}) 17 _ rfl m).set (C':={a with Wx:=b,Wm:=f}) 16 _ rfl m).set (C':={a with Wx:=b,Wm:=f,WB:=g}) 18 _ rfl m).set (C':={a with Wx:=b,Wm:=f,WB:=g,Wq:=a.Wd}) 5 _ rfl m).set (C':={a with Wx:=b,Wm:=f,WB:=g,Wq:=a.Wd,Wd:=0}) 3 _ rfl m).set (C':={a with Wx:=b,Wm:=f,WB:=g,Wq:=a.Wd,Wd:=0,Wl:=a.mode}) 7 _ rfl m).set (C':=qz a b f g) 1 _ rfl m);have O:=hS d;have x:=hS (d+2147483648);have Y:=s d;have N:=s (d+2147483648);have E:((d+2147483648:Nat):Int)=(d:Int)+2147483648:=J;rw[E]at x N;clear hS s E;obtain⟨z,C⟩:=y (decide (a.mode<=1));obtain⟨A,q⟩:=y (decide (a.WG/2^d%2=1));obtain⟨B,r⟩:=y (decide (a.V9/2^d%2=1));rw[<-C]at V|-;rw[<-q]at K;rw[<-r]at L;obtain⟨ao,G⟩:=y (a.WG/2^d%2);obtain⟨ap,H⟩:=y (a.V9/2^d%2);rw[<-G]at t K;rw[<-H]at u L;have h:=l (cZ q r);clear C q r G H n;cases i
 . cases z
   . cases A
     . exact As
     . exact As
   . cases A
     . exact As
     . simp only[if_true,cS,ei,<-h.out.1];clear h;go_enter func313,ntmps313;go_wp2_with fail;refine(t.out _).mono ?_;rintro k W ⟨rfl,rfl⟩;go_wp2_with fail;refine(w.out _).mono ?_;rintro k X ⟨rfl,rfl⟩;go_wp2_with fail;go_ret;refine⟨rfl,O.out,?_⟩;exact pt
 . cases z
   . cases B
     . exact At
     . exact At
   . cases B
     . exact At
     . simp only[if_true,cS,ei,<-h.out.2];clear h;go_enter func313,ntmps313;go_wp2_with fail;refine(u.out _).mono ?_;rintro k W ⟨rfl,rfl⟩;go_wp2_with fail;refine(w.out _).mono ?_;rintro k X ⟨rfl,rfl⟩;go_wp2_with fail;go_ret;refine⟨rfl,x.out,?_⟩;exact pt
def VA (b:Nat)(a:Q):List Nat:=[b,a.WG,a.V9,a.enable,a.soft,a.Wz,a.Wp,a.Xf,a.WK,a.Wm,a.Wx,a.WB,a.WH,a.WA,a.WR,a.Wu,a.WD,a.WI,a.Wf,a.Wa,a.Wg,a.ret,a.We]
def c8 (c:Nat)(a:Q)(b:Nat):Nat:=(VA c a)[b]?.getD 0
def Dy (a:Nat)(b:Q):c8 a b 0=a:=rfl
def Dz (b:Nat)(a:Q):c8 b a 1=a.WG:=rfl
def DK (b:Nat)(a:Q):c8 b a 2=a.V9:=rfl
def DO (b:Nat)(a:Q):c8 b a 3=a.enable:=rfl
def DP (b:Nat)(a:Q):c8 b a 4=a.soft:=rfl
def DQ (b:Nat)(a:Q):c8 b a 5=a.Wz:=rfl
def DR (b:Nat)(a:Q):c8 b a 6=a.Wp:=rfl
def DS (b:Nat)(a:Q):c8 b a 7=a.Xf:=rfl
def DT (b:Nat)(a:Q):c8 b a 8=a.WK:=rfl
def DU (b:Nat)(a:Q):c8 b a 9=a.Wm:=rfl
def DA (b:Nat)(a:Q):c8 b a 10=a.Wx:=rfl
def DB (b:Nat)(a:Q):c8 b a 11=a.WB:=rfl
def DC (b:Nat)(a:Q):c8 b a 12=a.WH:=rfl
def DD (b:Nat)(a:Q):c8 b a 13=a.WA:=rfl
def DE (b:Nat)(a:Q):c8 b a 14=a.WR:=rfl
def DF (b:Nat)(a:Q):c8 b a 15=a.Wu:=rfl
def DG (b:Nat)(a:Q):c8 b a 16=a.WD:=rfl
def DH (b:Nat)(a:Q):c8 b a 17=a.WI:=rfl
def DI (b:Nat)(a:Q):c8 b a 18=a.Wf:=rfl
def DJ (b:Nat)(a:Q):c8 b a 19=a.Wa:=rfl
def DL (b:Nat)(a:Q):c8 b a 20=a.Wg:=rfl
def DM (b:Nat)(a:Q):c8 b a 21=a.ret:=rfl
def DN (b:Nat)(a:Q):c8 b a 22=a.We:=rfl
def aeH (c e:Nat)(b:Q)(g:ay b)(d:D)(h:Hid (T d c e b)):
 aa 316 #[I c,j 0] (j ((fx b:Nat):Int)) d:=by
 have f:=l (EM c e b g d h);go_enter func316,ntmps316;go_wp2_with fail;refine f.out.mono ?_;exact z8
def aeI (b d:Nat)(a:Q)(f:ay a)(c:D)(e:Hid (T c b d a)):
 aa 316 #[I b,j 1] (j ((a.WG:Nat):Int)) c:=by
 have g:=e.out.Yl;exact el
def aeT (b d:Nat)(a:Q)(f:ay a)(c:D)(e:Hid (T c b d a)):
 aa 316 #[I b,j 2] (j ((a.V9:Nat):Int)) c:=by
 have g:=e.out.XB;exact el
def aeX (b d:Nat)(a:Q)(f:ay a)(c:D)(e:Hid (T c b d a)):
 aa 316 #[I b,j 3] (j ((a.enable:Nat):Int)) c:=by
 have g:=e.out.XI;exact el
def aeY (b d:Nat)(a:Q)(f:ay a)(c:D)(e:Hid (T c b d a)):
 aa 316 #[I b,j 4] (j ((a.soft:Nat):Int)) c:=by
 have g:=e.out.X5;exact el
def aeZ (b d:Nat)(a:Q)(f:ay a)(c:D)(e:Hid (T c b d a)):
 aa 316 #[I b,j 5] (j ((a.Wz:Nat):Int)) c:=by
 have g:=e.out.Yd;exact el
def ae0 (b d:Nat)(a:Q)(f:ay a)(c:D)(e:Hid (T c b d a)):
 aa 316 #[I b,j 6] (j ((a.Wp:Nat):Int)) c:=by
 have g:=e.out.Yg;exact el
def ae1 (b d:Nat)(a:Q)(f:ay a)(c:D)(e:Hid (T c b d a)):
 aa 316 #[I b,j 7] (j ((a.Xf:Nat):Int)) c:=by
 have g:=e.out.Ym;exact el
def ae2 (b d:Nat)(a:Q)(f:ay a)(c:D)(e:Hid (T c b d a)):
 aa 316 #[I b,j 8] (j ((a.WK:Nat):Int)) c:=by
 have g:=e.out.Ys;exact el
def ae3 (b d:Nat)(a:Q)(f:ay a)(c:D)(e:Hid (T c b d a)):
 aa 316 #[I b,j 9] (j ((a.Wm:Nat):Int)) c:=by
 have g:=e.out.X3;exact el
def aeJ (b d:Nat)(a:Q)(f:ay a)(c:D)(e:Hid (T c b d a)):
 aa 316 #[I b,j 10] (j ((a.Wx:Nat):Int)) c:=by
 have g:=e.out.Ye;exact el
def aeK (b d:Nat)(a:Q)(f:ay a)(c:D)(e:Hid (T c b d a)):
 aa 316 #[I b,j 11] (j ((a.WB:Nat):Int)) c:=by
 have g:=e.out.Yf;exact el
def aeL (b d:Nat)(a:Q)(f:ay a)(c:D)(e:Hid (T c b d a)):
 aa 316 #[I b,j 12] (j ((a.WH:Nat):Int)) c:=by
 have g:=e.out.Yh;exact el
def aeM (b d:Nat)(a:Q)(f:ay a)(c:D)(e:Hid (T c b d a)):
 aa 316 #[I b,j 13] (j ((a.WA:Nat):Int)) c:=by
 have g:=e.out.Yk;exact el
def aeN (b d:Nat)(a:Q)(f:ay a)(c:D)(e:Hid (T c b d a)):
 aa 316 #[I b,j 14] (j ((a.WR:Nat):Int)) c:=by
 have g:=e.out.Yt;exact el
def aeO (b d:Nat)(a:Q)(f:ay a)(c:D)(e:Hid (T c b d a)):
 aa 316 #[I b,j 15] (j ((a.Wu:Nat):Int)) c:=by
 have g:=e.out.X4;exact el
def aeP (b d:Nat)(a:Q)(f:ay a)(c:D)(e:Hid (T c b d a)):
 aa 316 #[I b,j 16] (j ((a.WD:Nat):Int)) c:=by
 have g:=e.out.Yi;exact el
def aeQ (b d:Nat)(a:Q)(f:ay a)(c:D)(e:Hid (T c b d a)):
 aa 316 #[I b,j 17] (j ((a.WI:Nat):Int)) c:=by
 have g:=e.out.Yj;exact el
def aeR (b d:Nat)(a:Q)(f:ay a)(c:D)(e:Hid (T c b d a)):
 aa 316 #[I b,j 18] (j ((a.Wf:Nat):Int)) c:=by
 have g:=e.out.X6;exact el
def aeS (b d:Nat)(a:Q)(f:ay a)(c:D)(e:Hid (T c b d a)):
 aa 316 #[I b,j 19] (j ((a.Wa:Nat):Int)) c:=by
 have g:=e.out.Ya;exact el
def aeU (b d:Nat)(a:Q)(f:ay a)(c:D)(e:Hid (T c b d a)):
 aa 316 #[I b,j 20] (j ((a.Wg:Nat):Int)) c:=by
 have g:=e.out.Xk;exact el
def aeV (b d:Nat)(a:Q)(f:ay a)(c:D)(e:Hid (T c b d a)):
 aa 316 #[I b,j 21] (j ((a.ret:Nat):Int)) c:=by
 have g:=e.out.Xl;exact el
def aeW (b d:Nat)(a:Q)(f:ay a)(c:D)(e:Hid (T c b d a)):
 aa 316 #[I b,j 22] (j ((a.We:Nat):Int)) c:=by
 have g:=e.out.Xq;exact el
def aeG (e g:Nat)(d:Q)(h:ay d)(a:Nat)(H:a<23)(f:D)(i:Hid (T f e g d)):
 aa 316 #[I e,j a] (j (c8 (fx d) d a)) f:=by
 by_cases k:a<1
 . have b:a=0:=J;have c:(a:Int)=0:=J;rw[c,b,Dy];exact aeH e g d h f i
 by_cases l:a<2
 . have b:a=1:=J;have c:(a:Int)=1:=J;rw[c,b,Dz];exact aeI e g d h f i
 by_cases w:a<3
 . have b:a=2:=J;have c:(a:Int)=2:=J;rw[c,b,DK];exact aeT e g d h f i
 by_cases z:a<4
 . have b:a=3:=J;have c:(a:Int)=3:=J;rw[c,b,DO];exact aeX e g d h f i
 by_cases A:a<5
 . have b:a=4:=J;have c:(a:Int)=4:=J;rw[c,b,DP];exact aeY e g d h f i
 by_cases B:a<6
 . have b:a=5:=J;have c:(a:Int)=5:=J;rw[c,b,DQ];exact aeZ e g d h f i
 by_cases C:a<7
 . have b:a=6:=J;have c:(a:Int)=6:=J;rw[c,b,DR];exact ae0 e g d h f i
 by_cases E:a<8
 . have b:a=7:=J;have c:(a:Int)=7:=J;rw[c,b,DS];exact ae1 e g d h f i
 by_cases F:a<9
 . have b:a=8:=J;have c:(a:Int)=8:=J;rw[c,b,DT];exact ae2 e g d h f i
 by_cases G:a<10
 . have b:a=9:=J;have c:(a:Int)=9:=J;rw[c,b,DU];exact ae3 e g d h f i
 by_cases m:a<11
 . have b:a=10:=J;have c:(a:Int)=10:=J;rw[c,b,DA];exact aeJ e g d h f i
 by_cases n:a<12
 . have b:a=11:=J;have c:(a:Int)=11:=J;rw[c,b,DB];exact aeK e g d h f i
 by_cases o:a<13
 . have b:a=12:=J;have c:(a:Int)=12:=J;rw[c,b,DC];exact aeL e g d h f i
 by_cases p:a<14
 . have b:a=13:=J;have c:(a:Int)=13:=J;rw[c,b,DD];exact aeM e g d h f i
 by_cases q:a<15
 . have b:a=14:=J;have c:(a:Int)=14:=J;rw[c,b,DE];exact aeN e g d h f i
 by_cases r:a<16
 . have b:a=15:=J;have c:(a:Int)=15:=J;rw[c,b,DF];exact aeO e g d h f i
 by_cases s:a<17
 . have b:a=16:=J;have c:(a:Int)=16:=J;rw[c,b,DG];exact aeP e g d h f i
 by_cases t:a<18
 . have b:a=17:=J;have c:(a:Int)=17:=J;rw[c,b,DH];exact aeQ e g d h f i
 by_cases u:a<19
 . have b:a=18:=J;have c:(a:Int)=18:=J;rw[c,b,DI];exact aeR e g d h f i
 by_cases v:a<20
 . have b:a=19:=J;have c:(a:Int)=19:=J;rw[c,b,DJ];exact aeS e g d h f i
 by_cases x:a<21
 . have b:a=20:=J;have c:(a:Int)=20:=J;rw[c,b,DL];exact aeU e g d h f i
 by_cases y:a<22
 . have b:a=21:=J;have c:(a:Int)=21:=J;rw[c,b,DM];exact aeV e g d h f i
 have b:a=22:=J;have c:(a:Int)=22:=J;rw[c,b,DN];exact aeW e g d h f i
def hp (a:Q):Nat->K
 |0=>ar a.mode 1
 |b+1=>hp a b++ar (c8 (fx a) a b) 4
theorem Dx (b:Q):∀a,(hp b a).size=1+4*a
 |0=>by simp only[hp];rw[bt]
 |a+1=>by simp only[hp];rw[fm,bt,Dx b a];omega
def adJ (h q:Nat)(a:Q)(N:ay a)(f:D)(z:Hid (T f h q a)):
 aa 243 #[I h] (.string (hp a 23)) f:=by
 have c1:=z.out.c1;have n:=l (og (a.mode:Int));have A:=bt (a.mode:Int) 1;obtain⟨t0,i⟩:=y (ar (a.mode:Int) 1);rw[<-i]at n A;have H:Hid (t0=hp a 0):=i;obtain⟨o,hS⟩:=y (hp a 23);rw[<-hS];have G:=l hS;clear i hS;go_enter func243,ntmps243;go_wp2_with fail;refine(n.out _).mono ?_;rintro r ac ⟨rfl,u⟩;have C:=l u;clear u c1;go_wp2_with fail;go_loopw [3,4] (fun S g wr=>∃(b:Nat) (c:K),b<=23/\S=.string c/\g=j b/\c.size=1+4*b/\Hid (c=hp a b)/\Hid (Below f.heap.size f wr)) (fun _ g _=>23- (intOf g).toNat);case atStart=>exact⟨0,t0,by omega,rfl,rfl,A,H,C⟩
 case round=>
  obtain⟨b,c,Z,rfl,rfl,X,s,e⟩:=hrel;by_cases R:b<23
  . have p:=l (aeG h q a N b R wr (l (z.out.more (Below.kept e.out []) F)));have L4:=l (mE (c8 (fx a) a b:Int));have V:=bt (c8 (fx a) a b:Int) 4;obtain⟨U,hu⟩:=y (ar (c8 (fx a) a b:Int) 4);rw[<-hu]at L4 V;obtain⟨d,t,P,Y⟩:=bj c U m;have L:Hid (d=hp a (b+1)):=by show d=_;rw[t,s.out,hu];rfl
    have B:d.size=1+4* (b+1):=J;obtain⟨ab,x⟩:=y (c8 (fx a) a b);rw[<-x]at p L4;clear hu t P x;go_wp2_with fail;refine p.out.mono ?_;rintro r ad ⟨rfl,v⟩;have k:=l (e.out.trans (v.mono e.out.size));clear v;go_wp2_with fail;refine(L4.out _).mono ?_;rintro r w3 ⟨rfl,w⟩;have E:=l (k.out.trans (w.mono k.out.size));clear w;go_wp2_with fail;go_roundw;case rel=>exact⟨b+1,d,by omega,rfl,by go_num,B,L,E⟩
    case measure=>exact a5
  . have W:decide ((b:Int)<23)=false:=M;have O:Hid (c=o):=by show c=o;rw[s.out,G.out,show b=23 by omega]
    go_wp2_with fail;go_ret;exact⟨by rw[O.out]<;>rfl,e.out⟩
end Go.Proofs.YtmlgonbhoknoiaaGreatDoor
