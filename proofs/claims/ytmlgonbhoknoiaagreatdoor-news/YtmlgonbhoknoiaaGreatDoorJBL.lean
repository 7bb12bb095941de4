import Derived.Test.YtmlgonbhoknoiaaGreatDoorJBF
set_option maxHeartbeats 8000000
set_option maxRecDepth 100000
set_option linter.all false
namespace Go.Proofs.YtmlgonbhoknoiaaGreatDoor
open Go.RowKit Go.Proofs.Tryz
def bE (b:K)(i:U)(a:K):Value:=.agg #[.string b,j i.op,j i.op,j i.rd,j i.V1,j i.V6,j i.V2,j i.V4,.string a,j i.V4]
def TK (i:U)(g:List L)(a:Nat):u.cb i g a []=none:=by
 unfold u.cb;simp only[List.getElem?_nil,Option.getD_none];split
 . simp[u.fS,u.Dl]
 . split
   . simp[u.fR]
   . simp[u.Cj,u.hg,u.CJ]
theorem TI (c:List L)(d:u.isName c=true):(u.number c).1=0:=by
 cases c with
 |nil=>decide
 |cons a j=>
  simp only[u.isName,cX,ox,ye]at d;obtain⟨hd,e,_⟩:=d;have f:¬a=45:=by
   intro b;rw[b]at e;exact absurd e R
  have g:¬a=48:=by
   intro b;rw[b]at hd;exact absurd hd R
  have i:10<=u.cq a:=by
   unfold u.bn at hd;unfold u.cq;simp only[Bool.and_eq_false_iff,mX]at hd;repeat(first|omega|split)
  unfold u.number;rw[z (by simp[f])];have h:u.plain (a::j)=none:=by
   unfold u.plain;rw[z (by simp[g])];unfold u.dw;split
   . rfl
   . simp only[u.df];rw[B i]
  rw[h];rfl
def bo (b:K)(i:U)(a:K):Obj:=.cells #[.string b,j i.op,j i.op,j i.rd,j i.V1,j i.V6,j i.V2,j i.V4,.string a,j i.V4] 169
structure a4 (b:D)(a:Nat)(d:K)(i:U)(c:K):Prop where
 V8:b.cell? ⟨a,0,none⟩=some (.string d)
 c1:b.cell? ⟨a,1,none⟩=some (j i.op)
 c2:b.cell? ⟨a,2,none⟩=some (j i.op)
 c3:b.cell? ⟨a,3,none⟩=some (j i.rd)
 c4:b.cell? ⟨a,4,none⟩=some (j i.V1)
 c5:b.cell? ⟨a,5,none⟩=some (j i.V6)
 W4:b.cell? ⟨a,6,none⟩=some (j i.V2)
 W5:b.cell? ⟨a,7,none⟩=some (j i.V4)
 Xj:b.cell? ⟨a,8,none⟩=some (.string c)
 Xi:b.cell? ⟨a,9,none⟩=some (j i.V4)
 Wb:∀e,b.frozen? ⟨a,e,none⟩=false
 lt:a<b.heap.size
def a4.more {g w':D}{a n:Nat}{e G:K}{i:U}(b:a4 g a e i G)(c:Below n g w')(d:a<n):a4 w' a e i G:=
 ⟨(c.cell (p:=⟨a,0,none⟩) d).trans b.V8,(c.cell (p:=⟨a,1,none⟩) d).trans b.c1,(c.cell (p:=⟨a,2,none⟩) d).trans b.c2,(c.cell (p:=⟨a,3,none⟩) d).trans b.c3,(c.cell (p:=⟨a,4,none⟩) d).trans b.c4,(c.cell (p:=⟨a,5,none⟩) d).trans b.c5,(c.cell (p:=⟨a,6,none⟩) d).trans b.W4,(c.cell (p:=⟨a,7,none⟩) d).trans b.W5,(c.cell (p:=⟨a,8,none⟩) d).trans b.Xj,(c.cell (p:=⟨a,9,none⟩) d).trans b.Xi,fun f=>(c.frozen (p:=⟨a,f,none⟩) d).trans (b.Wb f),by have:=c.size;have:=b.lt;omega⟩
def a4.new (c:D)(b:K)(i:U)(a:K):a4 (c.alloc (bo b i a)) c.heap.size b i a:=by
 unfold bo;refine⟨?_,?_,?_,?_,?_,?_,?_,?_,?_,?_,?_,?_⟩<;>simp
theorem a4.alloc {a:D}{c:Nat}{b G:K}{i:U}(d:a4 a c b i G)(e:Obj):a4 (a.alloc e) c b i G:=d.more ((aq a.heap.size a).alloc (aB _) e) d.lt
def sc (l:K)(g:Option (U×List L))(b n:Nat)(k d:List (List L))(m:Ending):Prop:=∃(h:U) (c:K) (f a e:Nat),m=.returned (.tuple #[bE l h c,.slice (some ⟨b,f,none⟩) a e,.bool g.isSome])/\Hid (∀i j,g=some (i,j)->h=i/\c=⟨j.toArray⟩/\a=d.length/\a<=e/\(∀W,bc W b n k->bc W b f d))
theorem gB {g:Option (U×List L)}{h:Bool}{o:U}{y0:List L}{i:K}(d:g=if h=true then some (o,y0)else none)(q:i=⟨y0.toArray⟩){b m n k:Nat}{j a:List (List L)}(r:a.length<=k)(s:Hid (∀W,bc W b m j->bc W b n a)){L':List (List L)}(p:L'=a):
 g.isSome=h/\Hid (∀e f,g=some (e,f)->o=e/\i=⟨f.toArray⟩/\a.length=L'.length/\a.length<=k/\∀W,bc W b m j->bc W b n L'):=by
 subst p;cases h with
 |true=>
  rw[B rfl]at d;subst d;refine⟨rfl,l (fun e f c=>?_)⟩;simp only[b6,bM]at c;obtain⟨rfl,rfl⟩:=c;exact⟨rfl,q,rfl,r,s.out⟩
 |false=>
  rw[z (by decide)]at d;subst d;exact⟨rfl,l (fun e f c=>by cases c)⟩
theorem nZ (i:U)(g:List L)(b:Nat)(c:List L)(d:List (List L))(f:b=100\/b=115\/b=116)(a:Option Nat)(e:a=u.cr c):u.cb i g b (c::d)=if a.isSome=true then some (if b=100 then{i with rd:=((a.getD 0:Nat):Int)}else if b=115 then{i with V1:=((a.getD 0:Nat):Int)}else{i with V6:=((a.getD 0:Nat):Int)},g)else none:=by
 unfold u.cb;rw[B f];simp only[us,ub,u.fS];rw[<-e];cases a with
 |none=>rfl
 |some r=>rfl
def sW (i:U)(g:List L)(a:Nat)(d:List L)(e:List (List L))(b:Int)(c:Bool)(f:(b,c)=u.number d)(h:a=117\/a=105):u.cb i g a (d::e)=if c=true then some (if a=117 then{i with V1:=b}else{i with V2:=b},g)else none:=by
 unfold u.cb;rw[z (by omega),z (by omega),z (by omega)];simp only[us,ub,u.hg];rw[<-f];cases c<;>rfl
def CN (i:U)(g:List L)(a:List L)(d:List (List L))(c:Int)(b:Bool)(f:(c,b)=u.number a)(e:false=u.isName a):u.cb i g 106 (a::d)=if b=true then some ({i with V2:=c},g)else none:=by
 unfold u.cb;simp only[us,ub,u.hg];rw[z (by omega),z (by omega),<-e,z (by simp),<-f];cases b<;>rfl
def TP (i:U)(g:List L)(a:List L)(c:List (List L))(b:Int)(j:Bool)(f:(b,j)=u.number a)(e:true=u.isName a)(d:i.V2=0):u.cb i g 106 (a::c)=if true=true then some ({i with V2:=b},a)else none:=by
 have h:b=0:=by
  have:=TI a e.symm;rw[<-f]at this;exact this
 unfold u.cb;rw[show((a::c)[0]?.getD [])=a from rfl,z (by omega),z (by omega),B ⟨rfl,e.symm⟩,B rfl,h];obtain⟨k,l,m,n,o,p⟩:=i;simp only at d;rw[d]
def CM (i:U)(g:List L)(a:List (List L)):u.cb i g 109 a=(u.fR i (a[0]?.getD []) (a[1]?.getD []) (a[2]?.getD []) (a[3]?.getD [])).map fun b=>(b,g):=by
 unfold u.cb;rw[z (by omega),B rfl]
def sV (i:U)(g:List L)(a:List (List L))(b:¬(a[1]?.getD []=[40]/\a[3]?.getD []=[41]/\(u.number (a[0]?.getD [])).2=true)):u.cb i g 109 a=none:=by
 rw[CM];unfold u.fR;rw[z b];rfl
def TJ (i:U)(g t0 t1 t2 t3:List L)(L4:List (List L))(b:Int)(d:Bool)(c:(b,d)=u.number t0)(l:d=true)(e:t1=[40])(f:t3=[41])(a:Option Nat)(h:a=u.cr t2):u.cb i g 109 (t0::t1::t2::t3::L4)=if a.isSome=true then some ({i with V2:=b,V1:=((a.getD 0:Nat):Int)},g)else none:=by
 have k:(u.number t0).2=true:=by rw[<-c];exact l
 have j:(u.number t0).1=b:=by rw[<-c]
 rw[CM];show(u.fR i t0 t1 t2 t3).map _=_;unfold u.fR;rw[B ⟨e,f,k⟩,<-h,j];cases a<;>rfl
theorem abb (b:K)(g:List L)(i:U)(f d v:Nat)(e:List L)(j:List (List L))(aS:(e::j).length<=5000)(aK:(e::j).length<=v)(a:D)(ay:Hid (bc a f d (e::j)))(ar:f<a.heap.size)(bs:Hid (ez (e::j))):
 Calls prog 310 #[bE b i ⟨g.toArray⟩,.int .u8 109,.slice (some ⟨f,d,none⟩) (e::j).length v] a fun n be=>sc b (u.cb i g 109 (e::j)) f d (e::j) ((e::j).drop (u.ao 109)) n/\Below a.heap.size a be:=by
 obtain⟨c,aD⟩:=y (⟨g.toArray⟩:K);rw[<-aD];have bh:=l aD;clear aD;have aP:Below a.heap.size a ((a.alloc (bo b i c)).alloc (bo ⟨#[]⟩ aF ⟨#[]⟩)):=pk;have aW:a4 ((a.alloc (bo b i c)).alloc (bo ⟨#[]⟩ aF ⟨#[]⟩)) (a.heap.size+1) ⟨#[]⟩ aF ⟨#[]⟩:=by
  have k:=a4.new (a.alloc (bo b i c)) ⟨#[]⟩ aF ⟨#[]⟩;simpa using k
 have aY:a4 ((a.alloc (bo b i c)).alloc (bo ⟨#[]⟩ aF ⟨#[]⟩)) a.heap.size b i c:=zi;have o:=l aP;have s:=l aW;have t:=l aY;unfold bo aF at o s t;clear aP aW aY;have aB:=ay.out 0 F;obtain⟨r,ak⟩:=y (⟨e.toArray⟩:K);have aC:a.cell? ⟨f,d,none⟩=some (.string r):=HF;have aX:r.data.toList=e:=by rw[ak]
 have a5:e.length<=5000:=bs.out e F;have ba:r.size<=5000:=by rw[ak];exact a5
 have bb:=l aC;have a6:Hid (((a.alloc (bo b i c)).alloc (bo ⟨#[]⟩ aF ⟨#[]⟩)).cell? ⟨f,d,none⟩=some (.string r)):=(o.out.cell ar).trans aC;have bn:=a6.out;unfold bo aF at bn;have aw:=fun W=>xL r W;have av:=fun W=>Ew r ba W;have au:=fun W=>qI r ba W;rw[aX]at aw av au;obtain⟨bA,aU⟩:=y (u.cr e);obtain⟨bm,aG⟩:=y (u.number e);obtain⟨bz,aT⟩:=y (u.isName e);rw[<-aU]at aw;rw[<-aG]at av;rw[<-aT]at au;have x:=l aw;have aA:=l av;have az:=l au;have ag:=l aG;have bq:((j.length:Int)+1==0)=false:=M;have br:(j.length+1==0)=false:=bN;simp only[c9]at aS aK|-;obtain⟨aO,bt⟩:=bm;clear aB ak aC aX a5 a6 aw av au aU aG aT;unfold bE;cases bt with
 |false=>
  have A:Hid (u.cb i g 109 (e::j)=none):=sV i g (e::j) (fun k=>by
   have ah:=k.2.2;have n:(u.number e).2=false:=m4;rw[show((e::j)[0]?.getD [])=e from rfl,n]at ah;cases ah)
  go_enter h8,h9;go_wp2_with fail;refine(x.out _).mono ?_;rintro n w ⟨rfl,m⟩;have h:=l (o.out.trans (m.mono o.out.size));have q:=t.out.more m ad;have p:=s.out.more m F;have an:=l q;have am:=l p;have d0:al w f d (.string r):=iW;obtain⟨y0,y1,y2,y3,y4,G,H,I,J,N,O,P⟩:=id q;obtain⟨Q,R,S,T,V,X,Y,Z,aa,ab,ae,af⟩:=id p;clear q p m t s x;go_wp2_with fail;refine(aA.out _).mono ?_;rintro n ai ⟨rfl,rfl⟩;go_wp2_with fail;refine(az.out _).mono ?_;rintro n ai ⟨rfl,rfl⟩;go_wp2;refine ac (v:=.tuple #[bE b i c,.slice (some ⟨f,d,none⟩) (j.length+1) v,.bool false]) iU rfl ⟨⟨i,c,d,j.length+1,v,?_,?_⟩,?_⟩
  . rw[A.out];rfl
  . exact AL
  . exact AM
 |true=>
  by_cases bp:j.length<3
  . have A:Hid (u.cb i g 109 (e::j)=none):=sV i g (e::j) (fun k=>by
     have ah:=k.2.1;rw[tZ (by simp;omega)]at ah;cases ah)
    have bx:decide ((j.length:Int)+1<4)=true:=M;go_enter h8,h9;go_wp2_with fail;refine(x.out _).mono ?_;rintro n w ⟨rfl,m⟩;have h:=l (o.out.trans (m.mono o.out.size));have q:=t.out.more m ad;have p:=s.out.more m F;have an:=l q;have am:=l p;have d0:al w f d (.string r):=iW;obtain⟨y0,y1,y2,y3,y4,G,H,I,J,N,O,P⟩:=id q;obtain⟨Q,R,S,T,V,X,Y,Z,aa,ab,ae,af⟩:=id p;clear q p m t s x;go_wp2_with fail;refine(aA.out _).mono ?_;rintro n ai ⟨rfl,rfl⟩;go_wp2_with fail;refine(az.out _).mono ?_;rintro n ai ⟨rfl,rfl⟩;go_wp2;refine ac (v:=.tuple #[bE b i c,.slice (some ⟨f,d,none⟩) (j.length+1) v,.bool false]) iU rfl ⟨⟨i,c,d,j.length+1,v,?_,?_⟩,?_⟩
    . rw[A.out];rfl
    . exact AL
    . exact AM
  . match j,bp with
    |t1::t2::t3::L4,_=>
     have a0:=ay.out 1 F;have a1:=ay.out 2 F;have a2:=ay.out 3 F;obtain⟨B,aH⟩:=y (⟨t1.toArray⟩:K);obtain⟨aj,aI⟩:=y (⟨t2.toArray⟩:K);obtain⟨C,aJ⟩:=y (⟨t3.toArray⟩:K);have bv:Hid (a.cell? ⟨f,d+1,none⟩=some (.string B)):=by show _=_;rw[a0,aH];rfl
     have bu:Hid (a.cell? ⟨f,d+2,none⟩=some (.string aj)):=by show _=_;rw[a1,aI];rfl
     have bw:Hid (a.cell? ⟨f,d+3,none⟩=some (.string C)):=by show _=_;rw[a2,aJ];rfl
     have aM:(B.toList==[40])=decide (B.data.toList=[40]):=ha B [40];have aN:(C.toList==[41])=decide (C.data.toList=[41]):=ha C [41];rw[show B.data.toList=t1 by rw[aH]]at aM;rw[show C.data.toList=t3 by rw[aJ]]at aN;have ax:=fun W=>xL aj W;rw[show aj.data.toList=t2 by rw[aI]]at ax;obtain⟨ao,aE⟩:=y (u.cr t2);rw[<-aE]at ax;have bj:=l ax;have bi:=l aE;obtain⟨a9,aR,a3,aZ,aL⟩:=k7 f d v (e::t1::t2::t3::L4) 4 4 rfl F aK;simp only[oU,jt]at a3 aZ aL;have bk:=l aL;have bB:decide ((L4.length:Int)+1+1+1+1<4)=false:=by simp<;>omega
     simp only[c9]at aS aK a3 bq br|-;clear a0 a1 a2 aH aI aJ ax aE aL;by_cases z:t1=[40]
     . rw[bd z]at aM;by_cases E:t3=[41]
       . rw[bd E]at aN;have aQ:=l (gB (L':=(e::t1::t2::t3::L4).drop (u.ao 109)) (TJ i g e t1 t2 t3 L4 aO true ag.out rfl z E ao bi.out) bh.out aZ bk rfl);clear z E;go_enter h8,h9;go_wp2_with fail;refine(x.out _).mono ?_;rintro n w ⟨rfl,m⟩;have h:=l (o.out.trans (m.mono o.out.size));have q:=t.out.more m ad;have p:=s.out.more m F;have an:=l q;have am:=l p;have d0:al w f d (.string r):=iW;obtain⟨y0,y1,y2,y3,y4,G,H,I,J,N,O,P⟩:=id q;obtain⟨Q,R,S,T,V,X,Y,Z,aa,ab,ae,af⟩:=id p;clear q p m t s x;have d1:al w f (d+1) (.string B):=HG;have d2:al w f (d+2) (.string aj):=HH;have d3:al w f (d+3) (.string C):=HI;go_wp2_with fail;refine(aA.out _).mono ?_;rintro n ai ⟨rfl,rfl⟩;go_wp2_with fail;refine(az.out _).mono ?_;rintro n ai ⟨rfl,rfl⟩;go_wp2_with fail;refine(bj.out _).mono ?_;rintro n w3 ⟨rfl,ap⟩;have bg:=l (h.out.trans (ap.mono h.out.size));clear y0 y1 y2 y3 y4 G H I J N Q R S T V X Y Z aa ab O P ae af;have a8:=an.out.more ap an.out.lt;have a7:=am.out.more ap am.out.lt;obtain⟨y0,y1,y2,y3,y4,G,H,I,J,N,O,P⟩:=id a8;obtain⟨Q,R,S,T,V,X,Y,Z,aa,ab,ae,af⟩:=id a7;clear a8 a7 ap;go_upto_region 35 with fail;go_region_with(fail);all_goals go_wp2
         all_goals refine ac (v:=.tuple #[bE b {i with V2:=aO,V1:=((ao.getD 0:Nat):Int)} c,.slice (some ⟨f,a9,none⟩) L4.length aR,.bool ao.isSome]) iU rfl ⟨⟨{i with V2:=aO,V1:=((ao.getD 0:Nat):Int)},c,a9,L4.length,aR,?_,?_⟩,?_⟩
         all_goals first|(rw[(aQ.out).1];done)|exact(aQ.out).2|(repeat(first|with_reducible exact aq _ _|with_reducible exact o.out|with_reducible exact bg.out|(with_reducible refine bf ?_ F _)|(with_reducible refine bl ?_ F _)|(with_reducible refine fG ?_)))
       . rw[aV E]at aN;have A:Hid (u.cb i g 109 (e::t1::t2::t3::L4)=none):=sV i g _ (fun k=>E k.2.1);clear z E;exact MV
     . rw[aV z]at aM;have A:Hid (u.cb i g 109 (e::t1::t2::t3::L4)=none):=sV i g _ (fun k=>z k.1);clear z;exact MV
    |[],k=>exact absurd F k
    |[_],k=>exact absurd F k
    |[_,_],k=>exact absurd F k
theorem Ex (b:K)(g:List L)(i:U)(ah:Nat)(a2:ah=100\/ah=115\/ah=116\/ah=109\/ah=106\/ah=117\/ah=105)(aO:ah=106->i.V2=0)(k d au:Nat)(ai:List (List L))(aP:¬ah=109\/ai=[])(a1:ai.length<=5000)(aM:ai.length<=au)(a:D)(a5:Hid (bc a k d ai))(ar:k<a.heap.size)(a3:Hid (ez ai)):
 Calls prog 310 #[bE b i ⟨g.toArray⟩,.int .u8 ah,.slice (some ⟨k,d,none⟩) ai.length au] a fun m aU=>sc b (u.cb i g ah ai) k d ai (ai.drop (u.ao ah)) m/\Below a.heap.size a aU:=by
 obtain⟨c,aA⟩:=y (⟨g.toArray⟩:K);rw[<-aA];have ag:=l aA;have aV:=l aO;have aW:=l aP;clear aA aO aP;have aH:Below a.heap.size a ((a.alloc (bo b i c)).alloc (bo ⟨#[]⟩ aF ⟨#[]⟩)):=pk;have aJ:a4 ((a.alloc (bo b i c)).alloc (bo ⟨#[]⟩ aF ⟨#[]⟩)) (a.heap.size+1) ⟨#[]⟩ aF ⟨#[]⟩:=by
  have ap:=a4.new (a.alloc (bo b i c)) ⟨#[]⟩ aF ⟨#[]⟩;simpa using ap
 have aL:a4 ((a.alloc (bo b i c)).alloc (bo ⟨#[]⟩ aF ⟨#[]⟩)) a.heap.size b i c:=zi;have j:=l aH;have r:=l aJ;have s:=l aL;unfold bo aF at j r s;clear aH aJ aL;cases ai with
 |nil=>
  rw[TK];unfold bE;go_enter h8,h9;go_wp2;refine ac (v:=.tuple #[bE b i c,.slice (some ⟨k,d,none⟩) 0 au,.bool false]) (by simp[results,results310,go_sem,bE,aF]) rfl ⟨⟨i,c,d,0,au,rfl,l (fun a7 a8 ap=>by cases ap)⟩,?_⟩;repeat(first|with_reducible exact aq _ _|with_reducible exact j.out|with_reducible exact h.out|(with_reducible refine bf ?_ F _)|(with_reducible refine bl ?_ F _)|(with_reducible refine fG ?_))
 |cons n f=>
  have aB:=a5.out 0 F;obtain⟨q,ak⟩:=y (⟨n.toArray⟩:K);have ay:a.cell? ⟨k,d,none⟩=some (.string q):=HF;have aK:q.data.toList=n:=by rw[ak]
  have aR:n.length<=5000:=a3.out n F;have aT:q.size<=5000:=by rw[ak];exact aR
  have bb:=l ay;have aS:Hid (((a.alloc (bo b i c)).alloc (bo ⟨#[]⟩ aF ⟨#[]⟩)).cell? ⟨k,d,none⟩=some (.string q)):=(j.out.cell ar).trans ay;have a0:=aS.out;unfold bo aF at a0;have ax:=fun W=>xL q W;have aw:=fun W=>Ew q aT W;have av:=fun W=>qI q aT W;rw[aK]at ax aw av;obtain⟨A,x,aQ,z,aG⟩:=k7 k d au (n::f) 1 1 rfl F aM;simp only[oU,jt]at aQ z aG;obtain⟨t,aD⟩:=y (u.cr n);obtain⟨aZ,aE⟩:=y (u.number n);obtain⟨aY,aC⟩:=y (u.isName n);rw[<-aD]at ax;rw[<-aE]at aw;rw[<-aC]at av;have w:=l ax;have an:=l aw;have am:=l av;have HR:=l aD;have ao:=l aE;have az:=l aC;have B:=l aG;have a6:((f.length:Int)+1==0)=false:=M;simp only[c9]at a1 aM aQ|-;obtain⟨v,aj⟩:=aZ;have aX:=l ak;clear aB ak ay aK aR aS ax aw av aD aE aC aG;unfold bE;rcases a2 with rfl|rfl|rfl|rfl|rfl|rfl|rfl
  . go_enter h8,h9;go_wp2_with fail;refine(w.out _).mono ?_;rintro m C ⟨rfl,e⟩;have h:=l (j.out.trans (e.mono j.out.size));have p:=s.out.more e ad;have o:=r.out.more e F;have d0:al C k d (.string q):=iW;obtain⟨y0,y1,y2,y3,y4,G,H,I,J,N,O,P⟩:=id p;obtain⟨Q,R,S,T,V,X,Y,Z,aa,ab,ae,af⟩:=id o;clear p o e s r w;go_wp2_with fail;refine(an.out _).mono ?_;rintro m E ⟨rfl,rfl⟩;go_wp2_with fail;refine(am.out _).mono ?_;rintro m E ⟨rfl,rfl⟩;go_upto_region 36 with fail;go_region_with(fail);all_goals go_wp2
    all_goals refine ac (v:=.tuple #[bE b {i with rd:=((t.getD 0:Nat):Int)} c,.slice (some ⟨k,A,none⟩) f.length x,.bool t.isSome]) iU rfl ⟨⟨{i with rd:=((t.getD 0:Nat):Int)},c,A,f.length,x,?_,?_⟩,?_⟩
    all_goals first|(rw[(gB (nZ i g 100 n f (.inl rfl) t HR.out) ag.out z B rfl).1];done)|exact(gB (nZ i g 100 n f (.inl rfl) t HR.out) ag.out z B rfl).2|(repeat(first|with_reducible exact aq _ _|with_reducible exact j.out|with_reducible exact h.out|(with_reducible refine bf ?_ F _)|(with_reducible refine bl ?_ F _)|(with_reducible refine fG ?_)))
  . go_enter h8,h9;go_wp2_with fail;refine(w.out _).mono ?_;rintro m C ⟨rfl,e⟩;have h:=l (j.out.trans (e.mono j.out.size));have p:=s.out.more e ad;have o:=r.out.more e F;have d0:al C k d (.string q):=iW;obtain⟨y0,y1,y2,y3,y4,G,H,I,J,N,O,P⟩:=id p;obtain⟨Q,R,S,T,V,X,Y,Z,aa,ab,ae,af⟩:=id o;clear p o e s r w;go_wp2_with fail;refine(an.out _).mono ?_;rintro m E ⟨rfl,rfl⟩;go_wp2_with fail;refine(am.out _).mono ?_;rintro m E ⟨rfl,rfl⟩;go_upto_region 36 with fail;go_region_with(fail);all_goals go_wp2
    all_goals refine ac (v:=.tuple #[bE b {i with V1:=((t.getD 0:Nat):Int)} c,.slice (some ⟨k,A,none⟩) f.length x,.bool t.isSome]) iU rfl ⟨⟨{i with V1:=((t.getD 0:Nat):Int)},c,A,f.length,x,?_,?_⟩,?_⟩
    all_goals first|(rw[(gB (nZ i g 115 n f (.inr (.inl rfl)) t HR.out) ag.out z B rfl).1];done)|exact(gB (nZ i g 115 n f (.inr (.inl rfl)) t HR.out) ag.out z B rfl).2|(repeat(first|with_reducible exact aq _ _|with_reducible exact j.out|with_reducible exact h.out|(with_reducible refine bf ?_ F _)|(with_reducible refine bl ?_ F _)|(with_reducible refine fG ?_)))
  . go_enter h8,h9;go_wp2_with fail;refine(w.out _).mono ?_;rintro m C ⟨rfl,e⟩;have h:=l (j.out.trans (e.mono j.out.size));have p:=s.out.more e ad;have o:=r.out.more e F;have d0:al C k d (.string q):=iW;obtain⟨y0,y1,y2,y3,y4,G,H,I,J,N,O,P⟩:=id p;obtain⟨Q,R,S,T,V,X,Y,Z,aa,ab,ae,af⟩:=id o;clear p o e s r w;go_wp2_with fail;refine(an.out _).mono ?_;rintro m E ⟨rfl,rfl⟩;go_wp2_with fail;refine(am.out _).mono ?_;rintro m E ⟨rfl,rfl⟩;go_upto_region 36 with fail;go_region_with(fail);all_goals go_wp2
    all_goals refine ac (v:=.tuple #[bE b {i with V6:=((t.getD 0:Nat):Int)} c,.slice (some ⟨k,A,none⟩) f.length x,.bool t.isSome]) iU rfl ⟨⟨{i with V6:=((t.getD 0:Nat):Int)},c,A,f.length,x,?_,?_⟩,?_⟩
    all_goals first|(rw[(gB (nZ i g 116 n f (.inr (.inr rfl)) t HR.out) ag.out z B rfl).1];done)|exact(gB (nZ i g 116 n f (.inr (.inr rfl)) t HR.out) ag.out z B rfl).2|(repeat(first|with_reducible exact aq _ _|with_reducible exact j.out|with_reducible exact h.out|(with_reducible refine bf ?_ F _)|(with_reducible refine bl ?_ F _)|(with_reducible refine fG ?_)))
  . rcases aW.out with ap|ap
    . exact absurd rfl ap
    . cases ap
  . cases aY with
    |true=>
     have aN:=gB (L':=(n::f).drop (u.ao 106)) (TP i g n f v aj ao.out az.out (aV.out rfl)) aX.out z B rfl;have aI:=l aN;clear aN;go_enter h8,h9;go_wp2_with fail;refine(w.out _).mono ?_;rintro m C ⟨rfl,e⟩;have h:=l (j.out.trans (e.mono j.out.size));have p:=s.out.more e ad;have o:=r.out.more e F;have d0:al C k d (.string q):=iW;obtain⟨y0,y1,y2,y3,y4,G,H,I,J,N,O,P⟩:=id p;obtain⟨Q,R,S,T,V,X,Y,Z,aa,ab,ae,af⟩:=id o;clear p o e s r w;go_wp2_with fail;refine(an.out _).mono ?_;rintro m E ⟨rfl,rfl⟩;go_wp2_with fail;refine(am.out _).mono ?_;rintro m E ⟨rfl,rfl⟩;go_upto_region 36 with fail;go_region_with(fail);all_goals go_wp2
     all_goals refine ac (v:=.tuple #[bE b {i with V2:=v} q,.slice (some ⟨k,A,none⟩) f.length x,.bool true]) iU rfl ⟨⟨{i with V2:=v},q,A,f.length,x,?_,?_⟩,?_⟩
     all_goals first|(rw[(aI.out).1];done)|exact(aI.out).2|(repeat(first|with_reducible exact aq _ _|with_reducible exact j.out|with_reducible exact h.out|(with_reducible refine bf ?_ F _)|(with_reducible refine bl ?_ F _)|(with_reducible refine fG ?_)))
    |false=>
     go_enter h8,h9;go_wp2_with fail;refine(w.out _).mono ?_;rintro m C ⟨rfl,e⟩;have h:=l (j.out.trans (e.mono j.out.size));have p:=s.out.more e ad;have o:=r.out.more e F;have d0:al C k d (.string q):=iW;obtain⟨y0,y1,y2,y3,y4,G,H,I,J,N,O,P⟩:=id p;obtain⟨Q,R,S,T,V,X,Y,Z,aa,ab,ae,af⟩:=id o;clear p o e s r w;go_wp2_with fail;refine(an.out _).mono ?_;rintro m E ⟨rfl,rfl⟩;go_wp2_with fail;refine(am.out _).mono ?_;rintro m E ⟨rfl,rfl⟩;go_upto_region 36 with fail;go_region_with(fail);all_goals go_wp2
     all_goals refine ac (v:=.tuple #[bE b {i with V2:=v} c,.slice (some ⟨k,A,none⟩) f.length x,.bool aj]) iU rfl ⟨⟨{i with V2:=v},c,A,f.length,x,?_,?_⟩,?_⟩
     all_goals first|(rw[(gB (CN i g n f v aj ao.out az.out) ag.out z B rfl).1];done)|exact(gB (CN i g n f v aj ao.out az.out) ag.out z B rfl).2|(repeat(first|with_reducible exact aq _ _|with_reducible exact j.out|with_reducible exact h.out|(with_reducible refine bf ?_ F _)|(with_reducible refine bl ?_ F _)|(with_reducible refine fG ?_)))
  . go_enter h8,h9;go_wp2_with fail;refine(w.out _).mono ?_;rintro m C ⟨rfl,e⟩;have h:=l (j.out.trans (e.mono j.out.size));have p:=s.out.more e ad;have o:=r.out.more e F;have d0:al C k d (.string q):=iW;obtain⟨y0,y1,y2,y3,y4,G,H,I,J,N,O,P⟩:=id p;obtain⟨Q,R,S,T,V,X,Y,Z,aa,ab,ae,af⟩:=id o;clear p o e s r w;go_wp2_with fail;refine(an.out _).mono ?_;rintro m E ⟨rfl,rfl⟩;go_wp2_with fail;refine(am.out _).mono ?_;rintro m E ⟨rfl,rfl⟩;go_upto_region 36 with fail;go_region_with(fail);all_goals go_wp2
    all_goals refine ac (v:=.tuple #[bE b {i with V1:=v} c,.slice (some ⟨k,A,none⟩) f.length x,.bool aj]) iU rfl ⟨⟨{i with V1:=v},c,A,f.length,x,?_,?_⟩,?_⟩
    all_goals first|(rw[(gB (sW i g 117 n f v aj ao.out (.inl rfl)) ag.out z B rfl).1];done)|exact(gB (sW i g 117 n f v aj ao.out (.inl rfl)) ag.out z B rfl).2|(repeat(first|with_reducible exact aq _ _|with_reducible exact j.out|with_reducible exact h.out|(with_reducible refine bf ?_ F _)|(with_reducible refine bl ?_ F _)|(with_reducible refine fG ?_)))
  . go_enter h8,h9;go_wp2_with fail;refine(w.out _).mono ?_;rintro m C ⟨rfl,e⟩;have h:=l (j.out.trans (e.mono j.out.size));have p:=s.out.more e ad;have o:=r.out.more e F;have d0:al C k d (.string q):=iW;obtain⟨y0,y1,y2,y3,y4,G,H,I,J,N,O,P⟩:=id p;obtain⟨Q,R,S,T,V,X,Y,Z,aa,ab,ae,af⟩:=id o;clear p o e s r w;go_wp2_with fail;refine(an.out _).mono ?_;rintro m E ⟨rfl,rfl⟩;go_wp2_with fail;refine(am.out _).mono ?_;rintro m E ⟨rfl,rfl⟩;go_upto_region 36 with fail;go_region_with(fail);all_goals go_wp2
    all_goals refine ac (v:=.tuple #[bE b {i with V2:=v} c,.slice (some ⟨k,A,none⟩) f.length x,.bool aj]) iU rfl ⟨⟨{i with V2:=v},c,A,f.length,x,?_,?_⟩,?_⟩
    all_goals first|(rw[(gB (sW i g 105 n f v aj ao.out (.inr rfl)) ag.out z B rfl).1];done)|exact(gB (sW i g 105 n f v aj ao.out (.inr rfl)) ag.out z B rfl).2|(repeat(first|with_reducible exact aq _ _|with_reducible exact j.out|with_reducible exact h.out|(with_reducible refine bf ?_ F _)|(with_reducible refine bl ?_ F _)|(with_reducible refine fG ?_)))
theorem aba (f:K)(g:List L)(i:U)(a:Nat)(o:a=100\/a=115\/a=116\/a=109\/a=106\/a=117\/a=105)(p:a=106->i.V2=0)(d e h:Nat)(b:List (List L))(j:b.length<=5000)(l:b.length<=h)(c:D)(n:Hid (bc c d e b))(k:d<c.heap.size)(m:Hid (ez b)):
 Calls prog 310 #[bE f i ⟨g.toArray⟩,.int .u8 a,.slice (some ⟨d,e,none⟩) b.length h] c fun t r=>sc f (u.cb i g a b) d e b (b.drop (u.ao a)) t/\Below c.heap.size c r:=by
 by_cases q:a=109
 . subst q;cases b with
   |nil=>exact Ex f g i 109 o p d e h [] (.inr rfl) j l c n k m
   |cons v s=>exact abb f g i d e h v s j l c n k m
 . exact Ex f g i a o p d e h b (.inl q) j l c n k m
end Go.Proofs.YtmlgonbhoknoiaaGreatDoor
