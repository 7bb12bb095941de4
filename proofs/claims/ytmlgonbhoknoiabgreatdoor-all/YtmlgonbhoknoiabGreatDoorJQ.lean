import Derived.BigQuiet
import Derived.BigRegion
import Derived.Carry
import Derived.ChangeOld
import Derived.Deep.AppendLies
import Derived.Deep.CutBlock
import Derived.Deep.CutRange
import Derived.Deep.DeepCutAuto
import Derived.Deep.DrawnRows
import Derived.Deep.Light
import Derived.Deep.MidRow
import Derived.Deep.QuietTactic
import Derived.Deep.RegionHeld3
import Derived.Deep.RegionWith
import Derived.Deep.Slices
import Derived.JoinedOf
import Derived.LaidMore
import Derived.Laws.BytesArg
import Derived.Laws.Concat
import Derived.Laws.IdiomCopy
import Derived.Lib.IndexBytes
import Derived.Lib.ItoaLen
import Derived.Lib.ItoaMem
import Derived.Lib.LaidTab
import Derived.Lib.Strings
import Derived.OpenShut
import Derived.ProofKit
import Derived.SevenTiedAt
import Derived.Shelf.LaysM
import Derived.Shelf.Strconv.Itoa0
import Derived.Shelf.Strconv.Itoa1
import Derived.Shelf.Strconv.Itoa2
import Derived.Shelf.Strconv.Itoa3
import Derived.SizedLaws
import Derived.Stop.Joined
import Derived.Test.YtmlgonbhoknoiabGreatDoorProg
import Derived.WalkKit
import Derived.WalkLawsBesides
import Derived.WalkSmall
set_option linter.all false
namespace Go.Proofs.YtmlgonbhoknoiabGreatDoor
open Go.RowKit Go.Proofs.Tryz
abbrev D :=World
abbrev K :=ByteArray
abbrev L :=UInt8
abbrev G {a:Type}[LT a][OfNat a 4294967296](b:a):Prop:=b<4294967296
def z := @if_neg
def B := @if_pos
def ab := @bodyPost_ret
def aq := @Below.refl
def aB := @Nat.le_refl
def aQ := @Nat.lt_of_lt_of_le
def aU := @decide_eq_false
def ba := @beq_iff_eq
def bc := @decide_eq_true
def bd := @Below.setCell
def bh := @cond_false
def bk := @Below.alloc
def bq := @Calls.quiet_of_same
def bJ := @Nat.lt_of_le_of_lt
def bK := @Prod.mk.injEq
def bZ := @World.cell?_setCell_other
def b4 := @beq_eq_false_iff_ne
def b5 := @Option.some.injEq
def ch := @Or.inr
def cu := @cond_true
def cA := @decide_eq_true_eq
def cP := @if_false
def cU := @Bool.and_eq_true
def cV := @Nat.pow_le_pow_right
def cW := @And.intro
def cX := @List.all_eq_true
def c6 := @List.length_cons
def da := @Nat.testBit_and
def di := @Nat.add_zero
def dj := @func253
def dk := @ntmps253
def dp := @Int.toNat_natCast
def dB := @List.mem_cons
def dO := @Bool.or_eq_true
def dP := @Array.length_toList
def dY := @Bool.eq_iff_iff
def eg := @Nat.zero_add
def eh := @Bool.false_eq_true
def ei := @Nat.ne_of_lt
def eQ := @List.drop_eq_nil_of_le
def eR := @List.not_mem_nil
def eS := @or_false
def fa := @List.getElem?_eq_getElem
def fb := @Nat.ne_of_gt
def fk := @Nat.mul_comm
def fl := @ByteArray.size_append
def fD := @Nat.le_trans
def fE := @Nat.testBit_or
def fF := @Below.drew
def gb := @Nat.mod_lt
def gc := @Nat.pow_succ
def gd := @List.getElem_mem
def gf := @and_true
def gg := @Nat.mod_two_eq_zero_or_one
def gh := @not_or
def gi := @wp_region_lit
def gj := @wpList_store_mid
def gl := @wpList_nil
def gm := @Nat.le_of_lt
def gN := @Nat.and_le_left
def gO := @Nat.div_div_eq_div_mul
def gP := @Tryz.underlying64
def gQ := @Option.map_some
def gR := @List.nodup_cons
def gS := @List.length_map
def hw := @Nat.eq_of_testBit_eq
def hx := @info_parts
def hy := @Or.inl
def hz := @Nat.mul_assoc
def hA := @Int.tdiv_eq_ediv_of_nonneg
def hB := @Exists.intro
def hC := @func351
def hD := @ntmps351
def h4 := @Bool.true_and
def h5 := @Tryz.underlying9
def h6 := @Option.some.inj
def h7 := @Int.eq_ofNat_of_zero_le
def h8 := @List.length_drop
def h9 := @func317
def ia := @ntmps317
def iQ := @Int.tmod_eq_emod_of_nonneg
def iR := @Nat.and_le_right
def iS := @List.nodup_nil
def iT := @func350
def iU := @ntmps350
def iV := @func310
def iW := @ntmps310
def jt := @Bool.false_and
def ju := @Nat.mul_add
def jv := @List.drop_eq_getElem_cons
def jw := @List.drop_zero
def jx := @Int.le_refl
def jy := @World.cell?_setCell_same
def jz := @Nat.lt_trans
def jA := @Eq.symm
def kd := @Nat.mul_le_mul_right
def ke := @wpList_append_own
def kf := @World.rangeAt_setCells_same
def kg := @func206
def kh := @ntmps206
def ka := @List.setIfInBounds_toArray
def kb := @List.set_cons_zero
def kc := @List.set_cons_succ
def lm := @Nat.two_pow_pos
def ln := @Nat.pow_zero
def lo := @Bool.and_false
def lp := @List.drop_drop
def lq := @Nat.div_le_self
def lr := @func399
def ls := @ntmps399
def lu := @World.frozen?_setCell
def mJ := @Nat.testBit_mod_two_pow
def mK := @Nat.testBit_eq_decide_div_mod_eq
def mL := @Int.mul_assoc
def mM := @Int.mul_sub
def mN := @List.length_take
def mO := @List.length_append
def mP := @Lib.toList_data
def mQ := @List.getElem_set
def mR := @func415
def mS := @ntmps415
def mT := @func343
def mU := @ntmps343
def mV := @decide_eq_false_iff_not
def mW := @func133
def mX := @ntmps133
def mY := @func37
def mZ := @ntmps37
def m0 := @Nat.succ_pos
def m1 := @func34
def m2 := @ntmps34
def oy := @Nat.div_one
def oz := @decide_false
def oA := @Nat.pow_add
def oB := @Bool.not_eq_true'
def oC := @UInt8.toNat_inj
def oD := @Tryz.underlying5
def oE := @Int.emod_nonneg
def oF := @func393
def oG := @ntmps393
def oH := @func428
def oI := @ntmps428
def oJ := @List.append_assoc
def oK := @List.getElem?_drop
def oL := @List.getElem?_eq_some_iff
def oM := @Tryz.underlying162
def oN := @Int.toNat_of_nonneg
def oO := @Nat.mul_one
def oP := @func127
def oQ := @ntmps127
def oR := @func344
def oS := @ntmps344
def oT := @func431
def oU := @ntmps431
def oV := @func196
def oW := @ntmps196
def oX := @func132
def oY := @ntmps132
def oZ := @func201
def o0 := @ntmps201
def o1 := @Nat.one_mul
def o2 := @Bool.or_false
def o3 := @false_and
def o4 := @func419
def o5 := @ntmps419
def o6 := @Nat.zero_mul
def o7 := @Nat.zero_testBit
def o8 := @List.drop_succ_cons
def o9 := @func166
def pa := @ntmps166
def rg := @List.getElem?_map
def rh := @Nat.add_comm
def ri := @Nat.max_eq_right
def rj := @Nat.max_eq_left
def rk := @Nat.mul_zero
def rl := @Nat.mod_one
def rm := @Array.getElem?_eq_some_iff
def ro := @Int.mul_add
def rp := @Nat.and_two_pow_sub_one_eq_mod
def rq := @List.getD_eq_getElem?_getD
def rr := @results_none
def rt := @ntmps345
def ru := @Bool.not_not
def rv := @ntmps375
def rw := @wpList_load_mid
def ry := @ntmps352
def rz := @ntmps267
def rA := @ntmps199
def rB := @Tryz.underlying71
def rC := @Bool.and_true
def rD := @ntmps356
def rE := @Bool.and_comm
def rF := @Prod.ext
def rG := @wpAnyH_take
def rH := @List.mem_cons_of_mem
def rI := @World.ownsRow_made
def rJ := @ntmps124
def rK := @List.getElem_append
def ul := @Nat.sub_self
def um := @run_convert_bytes_arg
def un := @Int.emod_add_mul_ediv
def uo := @Int.emod_eq_of_lt
def up := @List.map_cons
def uq := @Int.emod_lt_of_pos
def ur := @List.getElem?_append_left
def us := @List.getElem?_append_right
def ut := @World.frozen?_setCells
def uu := @Nat.testBit_two_pow
def uv := @List.getElem?_eq_none
def uw := @run_slice_string_from_if
def ux := @Option.getD_some
def uy := @Nat.mul_le_mul
def uz := @IntKind.wrap_i64
def uA := @Nat.pos_of_ne_zero
def uB := @Int.sub_mul
def uC := @Int.add_mul
def uD := @run_makeSlice
def uE := @Addr.add_mid
def uF := @Nat.pow_succ'
def uG := @Int.emod_two_eq
def uH := @Bool.false_or
def uI := @yieldsIf_load_mid
def uJ := @wpAnyH_ready
def uK := @AllReadyH.cons
def uL := @AllReadyH.nil
def uM := @List.mem_of_mem_drop
def uN := @not_false_eq_true
def uO := @List.getElem?_cons_zero
def yy := @Nat.div_eq_of_lt
def yz := @Nat.add_mul_div_right
def yA := @List.all_cons
def yB := @Nat.mul_le_mul_left
def yC := @Nat.mod_eq_of_lt
def yD := @List.length_set
def yE := @World.cell?_setCells_out
def yF := @List.eq_nil_of_length_eq_zero
def yG := @Lib.extract_to_end
def yH := @Int.ediv_ediv_of_nonneg
def yI := @Int.natAbs_tdiv
def yJ := @BitVec.toNat_ofInt
def yK := @Nat.or_lt_two_pow
def yL := @BitVec.toNat_and
def yM := @Nat.xor_lt_two_pow
def yN := @Nat.testBit_two_pow_sub_succ
def yO := @Int.natCast_mul
def yP := @List.getElem?_set_ne
def yQ := @run_copy_cells
def yR := @Nat.and_comm
def yS := @Nat.and_assoc
def yT := @List.take_of_length_le
def yU := @List.any_cons
def yV := @decide_eq_decide
def yW := @List.mem_singleton
def yX := @ByteArray.append_assoc
def yY := @List.length_nil
def FZ := @List.take_succ_eq_append_getElem
def F0 := @List.getElem?_take_of_lt
def F1 := @Classical.byContradiction
abbrev j (a:Int):Value:=.int .i64 a
abbrev I (a:Nat):Value:=.pointer (some ⟨a,0,none⟩)
abbrev al (d:D)(a b:Nat)(c:Value):Prop:=d.cell? ⟨a,b,none⟩=some c
abbrev dX (c:D)(a:Nat):Prop:=∀b,c.frozen? ⟨a,b,none⟩=false
def y {c:Type}(a:c):∃b,b=a:=⟨_,rfl⟩
def fG {c:Type}(a:c):∃b,a=b:=⟨_,rfl⟩
def cd {a b:Nat}(c:a<b):a<b/\a<b+1/\¬a=b+1/\a<b+1+1/\¬a=b+1+1/\a<b+1+1+1/\¬a=b+1+1+1/\a<b+1+1+1+1/\¬a=b+1+1+1+1:=by omega
abbrev Bn (a b:Nat):Prop:=a<b/\a<b+1/\¬a=b+1/\a<b+1+1/\¬a=b+1+1/\a<b+1+1+1/\¬a=b+1+1+1/\a<b+1+1+1+1/\¬a=b+1+1+1+1
abbrev av (b:D)(a:Nat)(d e:Int):Prop:=b.cell? ⟨a,0,none⟩=some (.int .i64 d)/\b.cell? ⟨a,1,none⟩=some (.int .i64 e)/\(∀c,b.frozen? ⟨a,c,none⟩=false)/\Bn a b.heap.size
abbrev a7 (b:D)(a:Nat)(d e f g h i:Int):Prop:=b.cell? ⟨a,0,none⟩=some (.int .i64 d)/\b.cell? ⟨a,1,none⟩=some (.int .i64 e)/\b.cell? ⟨a,2,none⟩=some (.int .i64 f)/\b.cell? ⟨a,3,none⟩=some (.int .i64 g)/\b.cell? ⟨a,4,none⟩=some (.int .i64 h)/\b.cell? ⟨a,5,none⟩=some (.int .i64 i)/\(∀c,b.frozen? ⟨a,c,none⟩=false)/\Bn a b.heap.size
variable {p:Prop}
abbrev O (e:Nat)(c:Array Value)(r:Value)(a:D):Prop:=Calls prog e c a fun d b=>d=.returned r/\b=a
abbrev ac (e:Nat)(c:Array Value)(r:Value)(a:D):Prop:=Calls prog e c a fun d b=>d=.returned r/\Below a.heap.size a b
def J (h:p:=by omega):=h
def bP (h:p:=by simp[u.bm];omega):=h
def rW (h:p:=by simp[u.blank];omega):=h
def iY (h:p:=by simp[u.ck,u.cF,u.bm];omega):=h
def ew (h:p:=by simp[u.cF];omega):=h
def im (h:p:=by simp[u.de,u.ck,u.cF,u.bm];omega):=h
def lU (h:p:=by unfold u.cp;rw[z (by omega),z (by omega),z (by omega)]):=h
def Lq (h:p:=by unfold u.cp;rw[B (by omega)]):=h
def ML (h:p:=by unfold u.cp;rw[z (by omega),z (by omega),B (by omega)]):=h
def NO (h:p:=by unfold u.cp;rw[z (by omega),B (by omega)]):=h
def bL (h:p:=by simp):=h
def GD (h:p:=by unfold u.du;rw[z (by omega)];rfl):=h
def kj (h:p:=by exact cV R m):=h
def cK (h:p:=by decide):=h
def akL (h:p:=by exact kd _ a):=h
def rV (h:p:=by exact eQ F):=h
def Hb (h:p:=by exact yF (by simpa using d)):=h
def zq (h:p:=by rw[mV];omega):=h
def jC (h:p:=by rw[ba];omega):=h
def gU (h:p:=by rw[b4];omega):=h
def vl (h:p:=by exact fun u j=>(h.lt u j).1):=h
def M (h:p:=by simp;omega):=h
def Hv (h:p:=by have:=xH (a.data.toList.drop b);simp at this;exact this):=h
def pt (h:p:=by exact fun l=>t l):=h
def vm (h:p:=by exact(o.alloc W _).grown m ad X):=h
def HG (h:p:=by rw[c.out];exact cV R i):=h
def zw (h:p:=by rw[Int.neg_tdiv];omega):=h
def vp (h:p:=by first|(simp;done)|(simp;omega)):=h
def kk (h:p:=by exact lq _ _):=h
def ig (h:p:=by show _=_;omega):=h
def kl (h:p:=by rw[hA (by omega)];omega):=h
def fc (h:p:=by rw[iQ (by omega)];omega):=h
def H6 (h:p:=by exact uy m h):=h
def zK (h:p:=by exact lm _):=h
def zN (h:p:=by exact cV (n:=2) R (show a%32<=31 by omega)):=h
def vB (h:p:=by unfold am;omega):=h
def ik (h:p:=by rw[dY];simp;omega):=h
def gW (h:p:=by rw[dY];simp):=h
def Ix (h:p:=by simp[f1]):=h
def i3 (h:p:=by simp[d]):=h
def eT (h:p:=by simp[c]):=h
def lS (h:p:=by simp[f]):=h
def IZ (h:p:=by show _=_;rw[<-b,dY];simp;omega):=h
def vF (h:p:=by unfold aZ;simp;omega):=h
def Jd (h:p:=by rw[hS,mN,h8];omega):=h
def vG (h:p:=by exact fun D=>d D.symm):=h
def kn (h:p:=by unfold dv;simp):=h
def Ab (h:p:=by exact l (f.out.setCell (.inl F) _)):=h
def Ag (h:p:=by rw[yD];exact H):=h
def JD (h:p:=by show g=c;rw[n.out,show b-i=0 by omega];rfl):=h
def kp (h:p:=by unfold eP;simp):=h
def kq (h:p:=by simp[b]):=h
def JZ (h:p:=by show d=_;rw[e.out,show a.size-i=0 by omega];rfl):=h
def gX (h:p:=by kernel_rfl):=h
def fI (h:p:=by rw[dY];first|(simp;done)|(simp;omega)):=h
def lT (h:p:=by exact(aq _ _).alloc (aB _) _):=h
def pR (h:p:=by simpa using g):=h
def Kq (h:p:=by exact l (fun y j=>⟨j.os.trans c.out.os,j.tape.trans c.out.tape,j.output.trans c.out.output,fD c.out.size j.size,fun w m=>(j.block w (aQ m c.out.size) ad).trans (c.out.block w m)⟩)):=h
def vS (h:p:=by exact qm F):=h
def gZ (h:p:=by simp[b]):=h
def KH (h:p:=by exact(j.cell r.out.lt).trans K):=h
def KR (h:p:=by intro j;rw[j]at s;unfold aa at s;simp at s;omega):=h
def KX (h:p:=by intro j;rw[j]at t;unfold aa at t;simp at t;omega):=h
def K7 (h:p:=by exact l (fun j=>W.out (b+64) _ m (ae j))):=h
def Lg (h:p:=by exact l (fun j=>W.out (b+128) _ m (af j))):=h
def Lm (h:p:=by exact l (fun j p=>W.out (b+192) _ m (ag j p))):=h
def AN (h:p:=by unfold gC;split<;>omega):=h
def pV (h:p:=by exact((Kept.refl _ _).alloc _).drew):=h
def LI (h:p:=by have:=h.out.nodup;simp at this|-;omega):=h
def AT (h:p:=by exact Nat.pow_pos R):=h
def LY (h:p:=by rw[oA,gc,hz]):=h
def pW (h:p:=by exact Nat.one_le_two_pow):=h
def Mh (h:p:=by exact fun g=>l ((cN (n:=49) R).2 g)):=h
def g0 (h:p:=by assumption):=h
def AW (h:p:=by exact yB _ n):=h
def MF (h:p:=by rw[C.jn _ _ (by simp)];exact A):=h
def v6 (h:p:=by rw[p6];omega):=h
def v8 (h:p:=by exact Int.mul_nonneg m m):=h
def A2 (h:p:=by rw[b];exact yw _ _ _ d m):=h
def A6 (h:p:=by rw[a];show _=_;simp):=h
def dE (h:p:=by rw[uz];omega):=h
def pX (h:p:=by rw[a];rfl):=h
def nm (h:p:=by simp[h]):=h
def NA (h:p:=by exact fun W g=>aij h k b A c L W g):=h
def b6 (h:p:=by exact l (a.out.alloc _)):=h
def NK (h:p:=by unfold cr;rw[k,z (by simp),B l]):=h
def NP (h:p:=by unfold cr;rw[k,z (by simp),z l]):=h
def wf (h:p:=by exact bl c 2147483648 m m):=h
def wg (h:p:=by unfold aa;simp at d|-;omega):=h
def Bg (h:p:=by exact aQ F f.size):=h
def pY (h:p:=by exact(b.cell aL aL).trans (by first|(simp;done)|(simp[*];done)|(rw[eb _ _ _ _ (by simp<;>omega)];first|assumption|(simp;done)|(simp[*];done)))):=h
def Bh (h:p:=by exact fun j=>(b.frozen aL aL).trans (by first|(simp;done)|(simp[*];done)|(rw[eB _ _ _ _ (by simp<;>omega)];first|(simp;done)|(simp[*];done)))):=h
def fn (h:p:=by exact aQ aL b.size):=h
def pZ (h:p:=by exact l ((f.alloc _).alloc _)):=h
def eU (h:p:=by exact(b.cell aL aL).trans GG):=h
def jL (h:p:=by exact fun j=>(b.frozen aL aL).trans GH):=h
def lv (h:p:=by exact(n.cell aL aL).trans GG):=h
def uQ (h:p:=by exact fun j=>(n.frozen aL aL).trans GH):=h
def m3 (h:p:=by exact aQ aL n.size):=h
def cB (h:p:=by exact l ((c.out.alloc _).alloc _)):=h
def Gh (h:p:=by exact l (((p.out.alloc _).alloc _).alloc _)):=h
def Gm (h:p:=by exact(b.cell aL aL).trans vc):=h
def Gw (h:p:=by exact(b.cell aL aL).trans rR):=h
def lw (h:p:=by exact(b.cell aL aL).trans rT):=h
def GF (h:p:=by exact fun j=>(b.frozen aL aL).trans rU):=h
def GK (h:p:=by exact(n.cell aL aL).trans GI):=h
def GR (h:p:=by exact(n.cell aL aL).trans vc):=h
def GS (h:p:=by exact(n.cell aL aL).trans rR):=h
def GU (h:p:=by exact l (fun W=>by have:=uf a c m m W;rw[show(decide ((c:Int)=4/\((a:Int)=33554432\/(a:Int)=33570816\/(a:Int)=33570820\/(a:Int)=33603576\/(a:Int)=33603580)))=true from i]at this;exact this)):=h
def GV (h:p:=by exact l (fun W=>by have:=uf a c m m W;rw[show(decide ((c:Int)=4/\((a:Int)=33554432\/(a:Int)=33570816\/(a:Int)=33570820\/(a:Int)=33603576\/(a:Int)=33603580)))=false from o]at this;exact this)):=h
def GW (h:p:=by exact l (fun W=>by have:=yq a c m m W;rw[show(decide ((c:Int)=1/\((a:Int)=268435456\/(a:Int)=268435457\/(a:Int)=268435458\/(a:Int)=268435461\/(a:Int)=268435463)))=true from g]at this;exact this)):=h
def zk (h:p:=by exact E.kept zb h):=h
def GX (h:p:=by exact l (fun W=>by have:=uf b c m m W;rw[show(decide ((c:Int)=4/\((b:Int)=33554432\/(b:Int)=33570816\/(b:Int)=33570820\/(b:Int)=33603576\/(b:Int)=33603580)))=false from k]at this;exact this)):=h
def GY (h:p:=by exact l (fun W=>by have:=yq b c m m W;rw[show(decide ((c:Int)=1/\((b:Int)=268435456\/(b:Int)=268435457\/(b:Int)=268435458\/(b:Int)=268435461\/(b:Int)=268435463)))=false from n]at this;exact this)):=h
def lx (h:p:=by exact(b.cell aK aK).trans rT):=h
def GZ (h:p:=by exact fun aQ=>(b.frozen aK aK).trans rU):=h
def pg (h:p:=by exact aQ aK b.size):=h
def zl (h:p:=by exact l (BW b ad)):=h
def G0 (h:p:=by exact z.more (G:=[a.heap.size]) (Kept.Xh _ (.inl F) _ _ _ (Kept.refl _ _)) ad ad ad ad ad):=h
def G1 (h:p:=by exact Kept.Xh _ (.inr (aB _)) _ _ _ (((Kept.refl _ _).alloc _).trans b)):=h
def ph (h:p:=by exact o 0 _ rfl):=h
def pi (h:p:=by exact o 1 _ rfl):=h
def pj (h:p:=by exact o 2 _ rfl):=h
def pk (h:p:=by exact o 3 _ rfl):=h
def pl (h:p:=by exact o 4 _ rfl):=h
def pm (h:p:=by exact o 5 _ rfl):=h
def ly (h:p:=by exact(e.cell aK aK).trans GL):=h
def G2 (h:p:=by exact fun j=>(e.frozen aK aK).trans GM):=h
def gT (h:p:=by exact aQ aK e.size):=h
def lz (h:p:=by exact(e.cell aK aK).trans rT):=h
def G3 (h:p:=by exact fun j=>(e.frozen aK aK).trans rU):=h
def zm (h:p:=by exact l (VW (World.there_alloc (BW b ad) _) ad e ad)):=h
def G4 (h:p:=by exact S.more (G:=[a.heap.size]) (Kept.Xh _ (.inl F) _ _ _ (Kept.refl _ _)) ad ad ad ad ad):=h
def G5 (h:p:=by exact Kept.Xh _ (.inr (aB _)) _ _ _ (((((Kept.refl _ _).alloc _).trans b).alloc _).trans e)):=h
def vf (h:p:=by exact cV R aa):=h
def vg (h:p:=by rw[ba];exact c1):=h
def vh (h:p:=by rw[b4];exact c1):=h
def lA (h:p:=by rw[p6];exact d):=h
def lB (h:p:=by simpa using h):=h
def lC (h:p:=by have:=l.out;omega):=h
def fm (h:p:=by have:=a.size;simp at this;omega):=h
def zn (h:p:=by rw[n _ _ (by omega),l _ _ (by simp;omega)];simp):=h
def pn (h:p:=by rw[n _ _ (by omega),l _ _ (by simp)];simp):=h
def akM (h:p:=by have:=a.size;omega):=h
def G6 (h:p:=by exact((((aq _ _).alloc (aB _) _).alloc F _)).trans (a.mono ad)):=h
def G7 (h:p:=by have:=f.size;simp at this;omega):=h
def G8 (h:p:=by exact(i.out.alloc m _).trans (f.mono ad)):=h
def ib (h:p:=by exact(h.cell F).trans F):=h
def G9 (h:p:=by exact fun j=>(h.frozen F).trans F):=h
def po (h:p:=by exact(q _ _ F).trans F):=h
def Ha (h:p:=by rw[a.out];show _=_;rw[z (by omega)]):=h
def m7 (h:p:=by rw[h];exact fun _ _ j=>j):=h
def pp (h:p:=by exact((Kept.refl _ _).alloc _).alloc _):=h
def Hc (h:p:=by exact l ⟨N.out.drew.c2,S.drew.cell 2 _ rfl,S.drew.cell 4 _ rfl,by simpa using Y⟩):=h
def zo (h:p:=by rw[dY];simp only[cA];omega):=h
def Hd (h:p:=by rw[ax,xQ]):=h
def He (h:p:=by exact l (fun W=>by have:=fC c W;rw[show decide (5<=c/\c<=10)=true by simp<;>omega]at this;exact this)):=h
def zp (h:p:=by exact l (fun W=>by have:=fC b W;rw[show decide (5<=b/\b<=10)=false by simp<;>omega]at this;exact this)):=h
def lD (h:p:=by unfold aw am;omega):=h
def lE (h:p:=by exact l (fun W=>by rw[xm];exact afz i.op W)):=h
def lF (h:p:=by exact l (fun W=>e0 _ W)):=h
def pq (h:p:=by exact(b.cell aK aK).trans (by rw[BY];rw[eb _ _ _ _ (by first|omega|(simp<;>omega))];rw[fJ _ _ _ _ _ (by first|omega|(simp<;>omega))];rfl)):=h
def Hf (h:p:=by exact(b.cell aK aK).trans (by rw[BY];rw[fJ _ _ _ _ _ (by first|omega|(simp<;>omega))];rfl)):=h
def Hg (h:p:=by exact aQ C (by rw[show(4294967296:Nat)=256^4 from rfl];exact cV m m)):=h
def vi (h:p:=by rw[r];exact A):=h
def lG (h:p:=by exact(e.cell aK aK).trans (by rw[eb _ _ _ _ (by first|omega|(simp<;>omega))];rw[eb _ _ _ _ (by first|omega|(simp<;>omega))];rw[eb _ _ _ _ (by first|omega|(simp<;>omega))];rw[eb _ _ _ _ (by first|omega|(simp<;>omega))];assumption)):=h
def Hh (h:p:=by exact fun j=>(e.frozen aK aK).trans (by rw[eB _ _ _ _ (by first|omega|(simp<;>omega))];rw[eB _ _ _ _ (by first|omega|(simp<;>omega))];rw[eB _ _ _ _ (by first|omega|(simp<;>omega))];rw[eB _ _ _ _ (by first|omega|(simp<;>omega))];first|assumption|(simp[*];done))):=h
def Hi (h:p:=by exact(e.cell aK aK).trans (by rw[eb _ _ _ _ (by first|omega|(simp<;>omega))];rw[eb _ _ _ _ (by first|omega|(simp<;>omega))];rw[eb _ _ _ _ (by first|omega|(simp<;>omega))];rw[fJ _ _ _ _ _ (by first|omega|(simp<;>omega))];rfl)):=h
def Hj (h:p:=by exact(e.cell aK aK).trans vc):=h
def lH (h:p:=by exact(h.cell aK aK).trans rL):=h
def Hk (h:p:=by exact fun j=>(h.frozen aK aK).trans zi):=h
def lI (h:p:=by exact aQ aK h.size):=h
def lJ (h:p:=by exact(G.cell aK aK).trans rL):=h
def Hl (h:p:=by exact fun j=>(G.frozen aK aK).trans zi):=h
def Hm (h:p:=by exact aQ aK G.size):=h
def Hn (h:p:=by exact l (fun W=>by rw[xm];exact FG n (ee i.op) (Int.natCast_nonneg _) (by have b:=Int.ofNat_lt.2 a0;exact b) W)):=h
def lK (h:p:=by simp[t]):=h
def vj (h:p:=by rw[Nat.pow_mul]):=h
def Ho (h:p:=by exact l (fun W e=>ug d f c o g p 4 m m m n W e)):=h
def Hp (h:p:=by exact l (fun W i=>uh d f c z g p 4 m m m x _ w W i)):=h
def Hq (h:p:=by rw[<-n];unfold hT;congr 1;rw[dY];simp;omega):=h
def pr (h:p:=by exact l (fun W=>by rw[RV];exact afM i.op W)):=h
def vk (h:p:=by exact l (fun W i=>by have:=ow d f (a.V7 g) o h 4 m m m m W i;rw[show(a.V7 g).b.o.length=g.o.length from rfl,k]at this;exact this)):=h
def zr (h:p:=by show p+4<=g.o.length;omega):=h
def ps (h:p:=by exact(b.cell aK aK).trans rR):=h
def lL (h:p:=by exact(e.cell aK aK).trans (by rw[eb _ _ _ _ (by first|omega|(simp<;>omega))];rw[eb _ _ _ _ (by first|omega|(simp<;>omega))];assumption)):=h
def Hr (h:p:=by exact fun j=>(e.frozen aK aK).trans (by rw[eB _ _ _ _ (by first|omega|(simp<;>omega))];rw[eB _ _ _ _ (by first|omega|(simp<;>omega))];first|assumption|(simp[*];done))):=h
def Hs (h:p:=by exact(e.cell aK aK).trans rR):=h
def Ht (h:p:=by exact bJ gN m):=h
def lM (h:p:=by rw[e];rfl):=h
def ajd (h:p:=by rw[q];simp[Ei]):=h
def aje (h:p:=by exact d 0 _ dZ):=h
def ajf (h:p:=by exact d 1 _ dZ):=h
def Hu (h:p:=by exact d 2 _ dZ):=h
def ajg (h:p:=by exact d 3 _ dZ):=h
def akN (h:p:=by exact a 4 _ dZ):=h
def ajh (h:p:=by exact d 5 _ dZ):=h
def aji (h:p:=by exact d 6 _ dZ):=h
def ajj (h:p:=by exact d 7 _ dZ):=h
def ajk (h:p:=by exact d 8 _ dZ):=h
def ajl (h:p:=by exact d 9 _ dZ):=h
def ajm (h:p:=by exact d 10 _ dZ):=h
def ajn (h:p:=by exact d 11 _ dZ):=h
def ajo (h:p:=by exact d 12 _ dZ):=h
def ajp (h:p:=by exact d 13 _ dZ):=h
def ajq (h:p:=by exact d 14 _ dZ):=h
def ajr (h:p:=by exact d 15 _ dZ):=h
def ajs (h:p:=by exact d 16 _ dZ):=h
def ajt (h:p:=by exact d 17 _ dZ):=h
def aju (h:p:=by exact d 18 _ dZ):=h
def akO (h:p:=by exact a 19 _ dZ):=h
def akP (h:p:=by exact a 20 _ dZ):=h
def akQ (h:p:=by exact a 21 _ dZ):=h
def akR (h:p:=by exact a 22 _ dZ):=h
def zs (h:p:=by unfold df;rw[B v]):=h
def lN (h:p:=by unfold a5;split<;>rfl):=h
def jD (h:p:=by exact(e.cell aK aK).trans rL):=h
def Hw (h:p:=by exact fun l=>(e.frozen aK aK).trans zi):=h
def zt (h:p:=by unfold df;rw[z v]):=h
def lO (h:p:=by exact fj _ m):=h
def Hx (h:p:=by rw[s];by_cases e:3072<=c<;>simp[e]<;>omega):=h
def zu (h:p:=by unfold ha;rw[B f]):=h
def lP (h:p:=by exact(h.cell aK aK).trans GL):=h
def Hy (h:p:=by exact fun j=>(h.frozen aK aK).trans GM):=h
def pu (h:p:=by exact(h.cell aK aK).trans rT):=h
def Hz (h:p:=by have j:a[i]=66:=(cN (n:=66) R).1 c2;simp[j]):=h
def HA (h:p:=by exact fun i=>c2 ((cN (n:=66) R).2 i)):=h
def rX (h:p:=by rw[g];rfl):=h
def rY (h:p:=by rw[d];simp[dQ]):=h
def rZ (h:p:=by rw[h];rfl):=h
def r0 (h:p:=by rw[k];rfl):=h
def r1 (h:p:=by rw[l];rfl):=h
def r2 (h:p:=by rw[m];rfl):=h
def ic (h:p:=by rw[<-t.out.1,<-t.out.2.2.1];first|rfl|simp):=h
def ie (h:p:=by rw[<-t.out.2.1,<-t.out.2.2.2];first|rfl|simp):=h
def dC (h:p:=by exact(Kept.refl _ _).alloc _):=h
def akS (h:p:=by have:=a.size;have:=b.lt;omega):=h
def HB (h:p:=by unfold aZ at g;simp at g;omega):=h
def HC (h:p:=by exact(b.cell aK aK).trans (by first|(rw[fJ _ _ _ _ _ (by simp[World.setCell])];rfl)|(rw[UV _ _ _ _ _ _ (by omega)];first|assumption|(simp;done)|(simp[*];done)))):=h
def HD (h:p:=by exact(h.cell aK aK).trans GI):=h
def pv (h:p:=by exact(h.cell aK aK).trans vc):=h
def HE (h:p:=by exact(h.cell aK aK).trans rR):=h
def HF (h:p:=by exact(i.cell aK aK).trans rT):=h
def pw (h:p:=by unfold bu;exact bc m):=h
def px (h:p:=by unfold bg;rw[B e]):=h
def HH (h:p:=by unfold dm;rw[z (by omega),z (by omega),B (by omega)];exact(p7 b.V3 a).symm):=h
def jE (h:p:=by unfold bu;simp only[cA];omega):=h
def HI (h:p:=by unfold bg;rw[z e,B (by omega)]):=h
def py (h:p:=by simp[x]):=h
def zv (h:p:=by unfold ec;split<;>rfl):=h
def vn (h:p:=by rw[t2];simp;omega):=h
def pz (h:p:=by exact P5 c.out _ (aB _)):=h
def HJ (h:p:=by exact(Kept.refl _ _).setCell (.inl F) _):=h
def HK (h:p:=by exact fun i g=>(bZ _ _ _ _ (by first|(simp;done)|(simp;omega))).trans (c.cell j t)):=h
def HL (h:p:=by exact fun g=>by have:=(k.out.Xs a d).lt _ g;omega):=h
def r3 (h:p:=by rw[u];rfl):=h
def vo (h:p:=by rw[U.out];rfl):=h
def r4 (h:p:=by have:=e.out;omega):=h
def r5 (h:p:=by rw[<-aj.out,<-c.out];exact e):=h
def r6 (h:p:=by rw[w];rfl):=h
def r7 (h:p:=by rw[z];rfl):=h
def r8 (h:p:=by rw[F];rfl):=h
def r9 (h:p:=by rw[H];rfl):=h
def HM (h:p:=by have i:=l.out;have j:=E.out;omega):=h
def zx (h:p:=by decide+kernel):=h
def HN (h:p:=by unfold sizeOf;rw[z (by omega),z (by omega),B (by omega)]):=h
def HO (h:p:=by rw[x];simpa[ByteArray.size]using C):=h
def pA (h:p:=by exact((aq _ _).alloc F _).alloc F _):=h
def zy (h:p:=by rw[ba]at h|-;exact h.symm):=h
def vq (h:p:=by rw[e];split<;>rfl):=h
def sa (h:p:=by exact fun l=>(aq _ _).alloc (aB _) _):=h
def HP (h:p:=by exact fun a=>ea (a:=n) (b:=⟨#[41]⟩) (c:=s) (by rw[q,t];exact hc _ [41]) (by rw[q];simp[ByteArray.size];omega) a):=h
def HQ (h:p:=by exact((aq _ _).alloc (aB _) _).drew):=h
def HS (h:p:=by rw[Z,fa B];rfl):=h
def HT (h:p:=by rw[ao,fa (by omega)];rfl):=h
def zz (h:p:=by rw[h8];omega):=h
def HU (h:p:=by rw[<-di C,aa,aN];rfl):=h
def zA (h:p:=by rw[w];exact aeV b):=h
def m8 (h:p:=by rw[<-ag.out]):=h
def HV (h:p:=by have:=n1 g m;unfold u.bp;rw[dP];exact this):=h
def zB (h:p:=by exact fun i=>ea (a:=h) (b:=d) (c:=o) w.symm m i):=h
def zC (h:p:=by rw[w,fl];omega):=h
def gV (h:p:=by simp[b]):=h
def sb (h:p:=by simp[v]):=h
def vr (h:p:=by rw[dP];rfl):=h
def HW (h:p:=by exact eQ (by rw[mN];omega)):=h
def HX (h:p:=by exact l (fun i g=>by have:=aO i g;omega)):=h
def vs (h:p:=by rw[<-I.out]):=h
def zD (h:p:=by exact J.out.alloc J.out.size _):=h
def HY (h:p:=by rw[L,fl];omega):=h
def HZ (h:p:=by rw[ao.out];exact aX):=h
def zE (h:p:=by exact(a3.new a b i c).alloc _):=h
def H0 (h:p:=by rw[<-di d,aB,ak];rfl):=h
def iZ (h:p:=by exact(h.out.cell ar).trans be.out):=h
def H1 (h:p:=by exact(h.out.cell ar).trans bu.out):=h
def H2 (h:p:=by exact(h.out.cell ar).trans bv.out):=h
def H3 (h:p:=by exact(h.out.cell ar).trans bw.out):=h
def pB (h:p:=by exact(e.cell F).trans F):=h
def ih (h:p:=by exact(c.cell F).trans F):=h
def sc (h:p:=by exact⟨Gm,Gm,(by exact fun j=>(b.frozen aL aL).trans vd),cd fn⟩):=h
def sd (h:p:=by exact⟨Gw,Gw,(by exact fun j=>(b.frozen aL aL).trans rS),cd fn⟩):=h
def se (h:p:=by exact⟨lw,lw,GF,cd fn⟩):=h
def pC (h:p:=by exact⟨GK,GK,(by exact fun g=>(n.frozen aL aL).trans GJ),cd m3⟩):=h
def H4 (h:p:=by exact⟨GR,GR,(by exact fun g=>(n.frozen aL aL).trans vd),cd m3⟩):=h
def H5 (h:p:=by exact⟨GS,GS,(by exact fun g=>(n.frozen aL aL).trans rS),cd m3⟩):=h
def i1 (h:p:=by exact⟨lx,lx,lx,lx,lx,lx,GZ,cd pg⟩):=h
def zF (h:p:=by exact⟨ly,ly,ly,ly,ly,ly,G2,cd gT⟩):=h
def zG (h:p:=by exact⟨lz,lz,lz,lz,lz,lz,G3,cd gT⟩):=h
def H7 (h:p:=by exact⟨lw,lw,lw,lw,lw,lw,GF,cd fn⟩):=h
def m9 (h:p:=by exact⟨pq,pq,pq,pq,pq,pq,(by exact fun j=>(b.frozen aK aK).trans (by rw[Ci];rw[eB _ _ _ _ (by first|omega|(simp<;>omega))];rw[fo _ _ _ _ _ (by first|omega|(simp<;>omega))])),cd pg⟩):=h
def lQ (h:p:=by exact⟨Hf,Hf,(by exact fun j=>(b.frozen aK aK).trans (by rw[Ci];rw[fo _ _ _ _ _ (by first|omega|(simp<;>omega))])),cd pg⟩):=h
def vt (h:p:=by exact⟨lG,lG,lG,lG,lG,lG,Hh,cd gT⟩):=h
def pD (h:p:=by exact⟨lG,lG,Hh,cd gT⟩):=h
def pE (h:p:=by exact⟨Hi,Hi,(by exact fun j=>(e.frozen aK aK).trans (by rw[eB _ _ _ _ (by first|omega|(simp<;>omega))];rw[eB _ _ _ _ (by first|omega|(simp<;>omega))];rw[eB _ _ _ _ (by first|omega|(simp<;>omega))];rw[fo _ _ _ _ _ (by first|omega|(simp<;>omega))])),cd gT⟩):=h
def pF (h:p:=by exact⟨Hj,Hj,(by exact fun j=>(e.frozen aK aK).trans vd),cd gT⟩):=h
def H8 (h:p:=by exact⟨lH,lH,lH,lH,lH,lH,Hk,cd lI⟩):=h
def sf (h:p:=by exact⟨lH,lH,Hk,cd lI⟩):=h
def sg (h:p:=by exact⟨lJ,lJ,Hl,cd Hm⟩):=h
def ii (h:p:=by exact⟨lx,lx,GZ,cd pg⟩):=h
def jF (h:p:=by exact⟨ps,ps,ps,ps,ps,ps,(by exact fun j=>(b.frozen aK aK).trans rS),cd pg⟩):=h
def vu (h:p:=by exact⟨lL,lL,Hr,cd gT⟩):=h
def zH (h:p:=by exact⟨Hs,Hs,(by exact fun j=>(e.frozen aK aK).trans rS),cd gT⟩):=h
def zI (h:p:=by exact⟨jD,jD,jD,jD,jD,jD,Hw,cd gT⟩):=h
def zJ (h:p:=by exact⟨lL,lL,lL,lL,lL,lL,Hr,cd gT⟩):=h
def H9 (h:p:=by exact⟨lP,lP,lP,lP,lP,lP,Hy,cd lI⟩):=h
def vv (h:p:=by exact⟨lP,lP,Hy,cd lI⟩):=h
def Ia (h:p:=by exact⟨pu,pu,pu,pu,pu,pu,(by exact fun j=>(h.frozen aK aK).trans rU),cd lI⟩):=h
def vw (h:p:=by exact⟨lJ,lJ,lJ,lJ,lJ,lJ,Hl,cd Hm⟩):=h
def pG (h:p:=by exact⟨HC,HC,(by exact fun j=>(b.frozen aK aK).trans GN),cd pg⟩):=h
def pH (h:p:=by exact⟨jD,jD,(by exact fun j=>(e.frozen aK aK).trans GN),cd gT⟩):=h
def vx (h:p:=by exact⟨HD,HD,(by exact fun j=>(h.frozen aK aK).trans GJ),cd lI⟩):=h
def vy (h:p:=by exact⟨pv,pv,pv,pv,pv,pv,(by exact fun j=>(h.frozen aK aK).trans vd),cd lI⟩):=h
def vz (h:p:=by exact⟨HE,HE,(by exact fun j=>(h.frozen aK aK).trans rS),cd lI⟩):=h
def zL (h:p:=by exact⟨HF,HF,(by exact fun j=>(i.frozen aK aK).trans rU),cd (by exact aQ aK i.size)⟩):=h
def zM (h:p:=by
 go_enter func308,ntmps308;exact we):=h
def sh (h:p:=by
 go_enter func219,ntmps219;exact we):=h
def i2 (h:p:=by
 go_enter func307,ntmps307;go_wp2_with(first|(go_at_call 308;refine(sG _ _).mono ?_;rintro s q ⟨rfl,rfl⟩));exact A9):=h
def zO (h:p:=by
 go_enter func359,ntmps359;exact we):=h
def km (h:p:=by
 go_enter func316,ntmps316;exact we):=h
def ij (h:p:=by
 go_enter func315,ntmps315;go_wp2_with(first|(go_at_call 316;refine(x6 _ _).mono ?_;rintro t s ⟨rfl,rfl⟩)|(go_at_call 359;refine(EO _ _).mono ?_;rintro t s ⟨rfl,rfl⟩));exact A9):=h
def na (h:p:=by
 clear b;go_enter func442,ntmps442;go_wp2_with(go_at_call 308;refine(sG _ _).mono ?_;rintro p o ⟨rfl,rfl⟩);exact Nz):=h
def nb (h:p:=by
 clear b;go_enter func411,ntmps411;go_wp2_with(go_at_call 359;refine(EO _ _).mono ?_;rintro p o ⟨rfl,rfl⟩);exact Nz):=h
def Ib (h:p:=by rw[jv (by simpa using b)];rfl):=h
def vA (h:p:=by
 go_enter func410,ntmps410;go_wp2;go_ret2;exact⟨⟨none,(by unfold u.du;rw[B (by omega)]:_=_),by simp,rfl⟩,rfl⟩):=h
def Ic (h:p:=by
 have i:=l (wH h (by rw[<-g.out];exact s) c);clear c;go_wp2;go_ret2;exact⟨⟨none,i,by simp,rfl⟩,rfl⟩):=h
def Ie (h:p:=by
 obtain rfl:i=a.size:=by omega
 have hd:a.data.toList.drop a.size=[]:=rV;rw[hd]at c;have j:Hid (some b=d):=c;clear c hd;go_wp2;go_ret2;exact⟨⟨some b,j.out.symm,t,rfl⟩,rfl⟩):=h
def If (h:p:=by exact⟨0,0,by omega,rfl,rfl,(by decide:0+1<=10^0),v⟩):=h
def Ig (h:p:=by
 have j:=B3 h zj c;rw[<-g.out]at j;clear c;have l:Hid (b*16+e+1<=16^(i+1)):=by
  show _<=_;have m:=o.out;rw[gc];omega
 clear o;go_wp2;go_round;case rel=>exact⟨i+1,b*16+e,by omega,by go_num,by go_num,l,j⟩
 case measure=>exact a4):=h
def Ih (h:p:=by exact⟨0,0,by omega,rfl,rfl,(by decide:0+1<=16^0),A⟩):=h
def Ii (h:p:=by
 go_ret;exact⟨by rw[e.out];rfl,rfl⟩):=h
def Ij (h:p:=by
 clear b f;go_wp2_with(go_at_call 307;refine(sH _ _).mono ?_;rintro l j ⟨rfl,rfl⟩);go_round;case rel=>exact⟨i+1,by omega,by go_num,m⟩
 case measure=>exact a4):=h
def si (h:p:=by
 go_wp2;exact Ii):=h
def nc (h:p:=by
 go_wp2;exact lR):=h
def zP (h:p:=by
 go_ret;exact⟨by rw[b.out];rfl,rfl⟩):=h
def Ik (h:p:=by
 go_round;case rel=>exact⟨i+1,by omega,by go_num,b⟩
 case measure=>exact a4):=h
def Il (h:p:=by
 obtain rfl:i=a.size:=by omega
 have j:a.data.toList.drop a.size=[]:=rV;rw[j]at b;have e:Hid (g=true):=b;clear b j;exact si):=h
def lR (h:p:=by
 go_ret;exact⟨rfl,rfl⟩):=h
def vC (h:p:=by exact⟨0,by omega,rfl,c⟩):=h
def Im (h:p:=by
 constructor
 . intro b;apply oC.1;simp;omega
 . intro b;subst b;simp;omega):=h
def zQ (h:p:=by
 go_enter func387,ntmps387;go_wp2_with fail;refine(OO a k _).mono ?_;exact In):=h
def In (h:p:=by
 rintro m l ⟨⟨j,i,n,rfl⟩,rfl⟩;exact ajK):=h
def Io (h:p:=by
 go_enter func357,ntmps357;go_wp2_with fail;refine(Bu a f _).mono ?_;exact vD):=h
def vD (h:p:=by
 rintro h g ⟨⟨j,e,i,rfl⟩,rfl⟩;exact ajL):=h
def Ip (h:p:=by
 replace d:=d.trans (show u.du 10 10 a.data.toList=u.dc 10 0 (a.data.toList.drop 0)by unfold u.du;rw[z (by omega)];rfl);exact ajM):=h
def Iq (h:p:=by
 have i:=l (d.trans (show u.du 10 10 a.data.toList=none by unfold u.du;rw[B (by omega)]));exact NB):=h
def Ir (h:p:=by
 have q:a.data.toList.length=a.size:=bL;by_cases c1:a.size<1
 . omega
 by_cases c2:10<a.size
 . exact Iq
 exact Ip):=h
def Is (h:p:=by
 have i:=l (d.trans (show u.du 16 8 a.data.toList=none by unfold u.du;rw[B (by omega)]));exact NB):=h
def ajv (h:p:=by
 rw[hd]at c;exact ND):=h
def It (h:p:=by
 go_enter func361,ntmps361;go_wp2_with fail;refine(ES a f _).mono ?_;exact vD):=h
def Iu (h:p:=by
 go_wp2_with(go_at_call 315;refine(tP _ _).mono ?_;rintro i e ⟨rfl,rfl⟩);exact zP):=h
def Iv (h:p:=by
 have l:((a[b].toNat:Int) !=35)=false:=M;have j:Hid (e=p):=(by rw[q.out,A,C];simp only[u.tok];rw[B x];simp:e=p);clear q A C x;exact NE):=h
def Iw (h:p:=by
 intro y B j m t;have u:y≠ .slice none 0 0:=pt;clear t;have z:Below c.heap.size c B:=vm;clear h m;rw[I.out,wP,show d-b=r by have:=i.out;omega]at j;go_wp2;go_roundw;case rel=>exact⟨d,p++[(a.data.toList.drop b).take r],by omega,by simp;omega,by go_num,u,by simpa using j,z,s⟩
 case measure=>exact a4):=h
def nd (h:p:=by
 intro u D j;exact ajO):=h
def Iy (h:p:=by
 intro u z j m t;have r:u≠ .slice none 0 0:=pt;clear t;have y:Below c.heap.size c z:=vm;clear h m;rw[I.out,wP,show b+1-b=1 by omega,au.out]at j;go_wp2;go_roundw;case rel=>exact⟨b+1,p++[[a[b]]],by omega,by simp;omega,by go_num,r,by simpa using j,y,s⟩
 case measure=>exact a4):=h
def Iz (h:p:=by
 go_roundw;case rel=>exact(by exact⟨b+1,p,by omega,by omega,by go_num,V,h,o,s⟩)
 case measure=>exact a4):=h
def IA (h:p:=by
 have l:decide ((b:Int)< (a.size:Int))=false:=M;have j:Hid (e=p):=(by rw[q.out,show a.size-b=0 by omega];simp[u.tok]:e=p);clear q;exact NE):=h
def IB (h:p:=by exact⟨0,[],by omega,by simp,rfl,by simp,rI c _ 0 (aB _) gp rfl,(aq _ _).alloc (aB _) _,av⟩):=h
def pI (h:p:=by intro j hu;simp at hu;subst hu;rfl):=h
def gp (h:p:=by unfold maxLen;omega):=h
def IC (h:p:=by
 go_wp2;all_goals go_ret
 all_goals exact⟨by simp[Nm.tc, *],rfl⟩):=h
def ID (h:p:=by
 go_wp2;all_goals go_ret
 all_goals go_light
 all_goals refine⟨congrArg (fun c=>Ending.returned (Value.string c)) (?_:_=Nm.shape a),rfl⟩
 all_goals try simp only[ba,b4,ne_eq]at *
 all_goals first|(exfalso;omega)|(rw[UX];repeat(first|rw[B (by omega)]|rw[z (by omega)]))):=h
def IE (h:p:=by
 have HR:=l b;clear b d;go_enter func368,ntmps368;exact NF):=h
def IF (h:p:=by
 go_enter func418,ntmps418;exact nc):=h
def IG (h:p:=by exact⟨a,1,by omega,by omega,rfl,rfl,l (by rw[c.out];omega)⟩):=h
def dD (h:p:=by simp[intOf]):=h
def IH (h:p:=by
 have HR:=l g;clear g m;go_enter func424,ntmps424;exact NF):=h
def II (h:p:=by
 go_wp2_with(go_at_call 370;refine(H.out _).mono ?_;rintro l j ⟨rfl,rfl⟩);go_round;case rel=>exact⟨i+1,r,by omega,Z,rfl,by go_num,k⟩
 case measure=>exact a4):=h
def a4 (h:p:=by simp[intOf];omega):=h
def zR (h:p:=by
 go_wp2_with(go_at_call 327;refine e.out.mono ?_;rintro l j ⟨rfl,rfl⟩);go_ret;exact⟨by rw[<-f.out]<;>rfl,rfl⟩):=h
def ex (h:p:=by
 rintro D O ⟨rfl,rfl⟩;exact cm):=h
def zS (h:p:=by
 have d:=l (bx a m m);have e:=l (bx b m m);have f:=fW ((a:Int)+b);have g:am ((a:Int)+b)=ir a b:=by unfold am ir;omega
 rw[g]at f;have c:=l f;clear f g;exact nf):=h
def nf (h:p:=by
 go_enter lr,ls;exact ajP):=h
def IJ (h:p:=by
 have b:=l (bx a m m);have c:=l (bx d m m);have k:=e5 a o;have n:=e5 d p;obtain⟨e,g⟩:=y (aX a);obtain⟨f,h⟩:=y (aX d);unfold lY;exact IU):=h
def IK (h:p:=by
 have b:=l (bx a m m);have c:=l (bx d m m);unfold lZ;exact IV):=h
def zT (h:p:=by
 have d:=l (bx a m m);have e:=l (bx b m m);have c:=l (ace a b f g);unfold kF;exact nf):=h
def zU (h:p:=by
 have d:=l (bx a m m);have e:=l (bx b m m);have c:=l (yb a b f g);unfold kz;exact nf):=h
def zV (h:p:=by
 have d:=l (bx a m m);have e:=l (bx b m m);have c:=l (fA a b f g);unfold ku;exact nf):=h
def IL (h:p:=by
 have s:=l (bx b m m);have t:=l (bx a m m);unfold kC;have x:(a:Int).tmod 32=((a%32:Nat):Int):=fc;have k:0<2^(a%32):=zK;have h:2^(a%32)<=2147483648:=zN;have c:=tT (a%32) m;obtain⟨w,i⟩:=y (a%32);rw[<-i]at x k h c|-;obtain⟨p,j⟩:=y (2^w:Nat);rw[<-j]at k h c|-;have r:=l c;clear c i j;have o:b*p<=4294967295*2147483648:=H6;have v:(b:Int)*p=((b*p:Nat):Int):=bL;obtain⟨d,n⟩:=y (b*p);rw[<-n]at o v|-;have g:=fW d;have f:am (d:Int)=d%4294967296:=vB;rw[f]at g;have e:=l g;have C:d<=9223372036854775807:=J;clear g f n o;go_enter lr,ls;go_wp2_with fail;refine(s.out _).mono ?_;rintro u z ⟨rfl,rfl⟩;go_wp2_with fail;refine(t.out _).mono ?_;rintro u z ⟨rfl,rfl⟩;go_wp2_with fail;refine(r.out _).mono ?_;exact IQ):=h
def IM (h:p:=by
 have d:=l (bx b m m);have e:=l (bx a m m);unfold kE;have s:(a:Int).tmod 32=((a%32:Nat):Int):=fc;have i:0<2^(a%32):=zK;have j:2^(a%32)<=2147483648:=zN;have f:=tT (a%32) m;obtain⟨r,g⟩:=y (a%32);rw[<-g]at s i j f|-;obtain⟨p,h⟩:=y (2^r:Nat);rw[<-h]at i j f|-;have c:=l f;clear f g h;have q:=n0 b p;have o:b/p<=b:=kk;obtain⟨v,k⟩:=y (b/p);rw[<-k]at q o|-;clear k;exact nf):=h
def IN (h:p:=by
 have r:=l (bx b m m);have s:=l (bx a m m);have A:=e5 b e;unfold kD;have v:(a:Int).tmod 32=((a%32:Nat):Int):=fc;have i:0<2^(a%32):=zK;have j:2^(a%32)<=2147483648:=zN;have c:=tT (a%32) m;obtain⟨u,f⟩:=y (a%32);rw[<-f]at v i j c|-;obtain⟨p,h⟩:=y (2^u:Nat);rw[<-h]at i j c|-;have q:=l c;clear c f h;have g:=tQ (aX b) p m m m m;obtain⟨w,n⟩:=y (aX b/ (p:Int));rw[<-n]at g|-;have d:=l g;have k:=l (fW w);clear g n;go_enter lr,ls;go_wp2_with fail;refine(r.out _).mono ?_;rintro t x ⟨rfl,rfl⟩;go_wp2_with fail;refine(s.out _).mono ?_;rintro t x ⟨rfl,rfl⟩;go_wp2_with fail;refine(q.out _).mono ?_;exact NG):=h
def IP (h:p:=by
 rw[<-c]at g|-;have d:=l g;have k:=l (fW h);clear g c;go_enter lr,ls;go_wp2_with fail;refine(e.out _).mono ?_;rintro j r ⟨rfl,rfl⟩;go_wp2_with fail;refine(f.out _).mono ?_;exact NG):=h
def IQ (h:p:=by
 rintro g l ⟨rfl,rfl⟩;exact ajQ):=h
def IR (h:p:=by
 rw[B g];have j:a=0:=J;subst j;clear g n;exact hG):=h
def IS (h:p:=by
 go_enter lr,ls;go_wp2_with fail;refine(b.out _).mono ?_;rintro j l ⟨rfl,rfl⟩;go_wp2_with fail;refine(c.out _).mono ?_;exact NH):=h
def IT (h:p:=by
 subst e;rw[B rfl];exact hG):=h
def hG (h:p:=by
 go_enter lr,ls;exact NI):=h
def IU (h:p:=by
 rw[<-g,<-h];exact ajR):=h
def IV (h:p:=by
 by_cases e:a<d
 . exact ajS
 . exact ajT):=h
def IW (h:p:=by
 go_enter func396,ntmps396;exact NI):=h
def vE (h:p:=by
 go_enter func396,ntmps396;go_wp2_with fail;refine(b.out _).mono ?_;rintro j l ⟨rfl,rfl⟩;go_wp2_with fail;refine(c.out _).mono ?_;rintro j l ⟨rfl,rfl⟩;go_wp2_with fail;go_ret;exact⟨by first|rfl|(congr 2;exact hd)|(simp[hd]),rfl⟩):=h
def IX (h:p:=by
 rw[B rfl];exact IW):=h
def IY (h:p:=by
 by_cases f1:c=1
 . exact ajU
 . exact ajV):=h
def I0 (h:p:=by
 clear d;exact IY):=h
def I1 (h:p:=by exact(aq _ _).alloc (aB _) _):=h
def I2 (h:p:=by exact⟨b,i,by omega,by omega,rfl,rfl,d⟩):=h
def I3 (h:p:=by exact⟨p,a,by omega,by omega,rfl,by go_num,h⟩):=h
def zW (h:p:=by
 clear g;go_enter func392,ntmps392;exact pK):=h
def jG (h:p:=by
 clear hd f d;go_enter func416,ntmps416;go_wp2_with fail;refine s.out.mono ?_;exact Kh):=h
def zX (h:p:=by
 go_wp2_with fail;go_ret;exact⟨by rw[HR.out]<;>first|rfl|(rw[<-b];rfl),rfl⟩):=h
def I4 (h:p:=by
 go_wp2_with fail;refine e.out.mono ?_;rintro j l ⟨rfl,rfl⟩;go_wp2_with fail;refine f.out.mono ?_;exact ex):=h
def I5 (h:p:=by
 go_wp2_with fail;go_ret;exact⟨by first|rfl|(rw[<-d];rfl),rfl⟩):=h
def cm (h:p:=by
 go_wp2_with fail;exact lR):=h
def I6 (h:p:=by
 go_wp2_with fail;refine u.out.mono ?_;rintro aa af ⟨rfl,rfl⟩;clear u;go_wp2_with fail;go_loop [8,9] (fun I p=>∃(a e:Nat),a<=b/\e<=4294967296/\I=j e/\p=j ((a:Int)-1)/\Hid (e=fe (c.drop a))) (fun _ p=>((intOf p)+1).toNat);case atStart=>exact⟨b,0,aB _,by omega,rfl,rfl,l (by rw[eQ (by omega)];rfl)⟩
 case round=>
  obtain⟨a,e,ad,ae,rfl,rfl,k⟩:=hrel;cases a with
  |zero=>
   have T:Hid (e=v):=by show e=v;rw[k.out,i.out];rfl
   clear k i t;go_wp2_with fail;go_ret;exact⟨by rw[T.out]<;>rfl,rfl⟩
  |succ a=>
   have D:(((a+1:Nat):Int)-1)=a:=J;rw[D];have Q:=t.out a m;have O:=gI (c[a]'m);have n:fe (c.drop a)=(c[a]'m).toNat+256*e:=by
    rw[jv (show a<c.length by omega)];simp only[fe];rw[k.out]
   have G:fe (c.drop a)<=4294967296:=by
    have ab:=qo (c.drop a);have ac:256^(c.drop a).length<=256^4:=cV R (by rw[h8];omega);omega
   obtain⟨w,H⟩:=y ((c[a]'m).toNat);rw[<-H]at Q O n;have S:Hid (e*256+w=fe (c.drop a)):=by show _=_;rw[n];omega
   have U:e*256+w<=4294967296:=by rw[n]at G;omega
   clear k i n G H D;go_wp2_with fail;go_round;case rel=>exact⟨a,e*256+w,by omega,U,by go_num,by go_num,S⟩
   case measure=>simp[intOf]):=h
def jH (h:p:=by
 have d:=c.ne;have h:¬b=a:=vG;have i:=c.V8;have j:=c.c1;have l:=c.c2;have m:=c.c3;have n:=c.c4;have o:=c.c5;have p:=c.W4;have q:=c.W5;have r:=c.Xj;have s:=c.Xi;have k:=c.Xt;have t:=c.Wb;have v:=c.lt;have y:=c.XA;have z:=c.Ww;refine⟨?_,?_,?_,?_,?_,?_,?_,?_,?_,?_,?_,?_,?_,fun x u=>?_,?_,?_,d⟩;all_goals first|(have w:=c.o x u;simp[go_sem,d,h,w];done)|(simp[go_sem,i,j,l,m,n,o,p,q,r,s,k,t,v,y,z,d,h];done)):=h
def ng (h:p:=by
 rw[e];clear e;exact I8):=h
def I7 (h:p:=by
 rintro j l ⟨rfl,rfl⟩;exact Jh):=h
def I8 (h:p:=by
 go_enter oF,oG;exact ajW):=h
def ajw (h:p:=by
 rintro j l ⟨rfl,rfl⟩;exact NJ):=h
def I9 (h:p:=by
 go_wp2;go_loopw [0,5,6] (fun z s i wr=>∃b:Nat,b<=c/\i=j b/\wr.ownsRow a.heap.size 5 1 s b ((b3 d b).map (Value.int .u8))/\Below a.heap.size a wr/\(∃e,z=j e/\Hid (e=d/256^b))) (fun _ _ i _=>c- (intOf i).toNat);case atStart=>
  refine⟨0,Nat.zero_le _,rfl,rI a _ 8 (aB _) gp rfl,(aq _ _).alloc (aB _) _,d,rfl,(by simp:d=d/256^0)⟩
 case round=>
  obtain⟨b,L,rfl,h,f,e,rfl,l⟩:=hrel;by_cases M:b<c
  . have v:(b:Int)<8:=J;have C:(b:Int)<c:=J;have w:=f.size;have y:∀q,u5.ownBlock=some q->a.heap.size<=q:=vl;go_wp2_with(at_builtin;refine ke _ rfl (.tmp 17) (.tmp 20) 64 rfl a.heap.size 5 p (.int .u8 0) 1 1 gP k m n o rfl R _ _ _ rfl (h.alloc _) ⟨wr.heap.size,0,none⟩ 1 1 [.int .u8 (e%256)] rfl rfl ?c1 ?c2 ?c3 ?c4 ?c5 ?_);case c1=>
     exact nd
    case c2=>intro N hu;simp at hu;subst hu;rfl
    case c3=>unfold maxLen;omega
    case c4=>omega
    case c5=>simp;omega
    intro E O r x _;clear h;go_wp2;go_roundw;case rel=>
     refine⟨b+1,by omega,by go_num,?_,?_,e/256,rfl,?_⟩
     . have t:(b3 d (b+1)).map (Value.int .u8)=(b3 d b).map (Value.int .u8)++[Value.int .u8 (e%256)]:=by
        rw[l.out];simp[b3]
       rw[t];exact r
     . exact(f.alloc w _).grown x ad y
     . show e/256=d/256^(b+1);rw[l.out,Int.pow_succ];exact yH (Int.pow_nonneg R)
    case measure=>exact a4
  . have v:¬(b:Int)<c:=J;obtain rfl:b=c:=by omega
    have I:=Tz 64 9 gP oD h5 h;rcases h.2 with⟨rfl,H⟩|⟨g,F,G,rfl,K⟩
    . go_wp2;go_ret;exact⟨rfl,f⟩
    . go_wp2;go_ret;exact⟨rfl,f⟩):=h
def Ja (h:p:=by rw[<-e];exact run_string_add_sum d a b m):=h
def Jb (h:p:=by
 have l:=b.o c k;by_cases f:c=a
 . subst f;simp[go_sem,l]
 . have D:¬a=c:=fun b=>f b.symm;simp[go_sem,l,f,D,mQ]):=h
def Jc (h:p:=by
 clear k x z w n;go_wp2_with fail;go_roundw;case rel=>
  first
   |exact⟨i+1,R,c.set (p+i) (UInt8.ofNat a),by omega,s,rfl,by go_num,Q,K,O,r⟩
   | ((repeat apply hB);exact⟨⟨i+1,R,c.set (p+i) (UInt8.ofNat a),by omega,s,rfl,by go_num,Q,K,O,r⟩,rfl⟩)
 case measure=>exact a4):=h
def zY (h:p:=by
 clear u;exact sj):=h
def sj (h:p:=by
 go_enter oH,oI;exact ajX):=h
def Je (h:p:=by
 rintro j l ⟨rfl,rfl⟩;exact vH):=h
def Jf (h:p:=by
 rw[d];clear d;go_enter oH,oI;go_wp2_with fail;refine v.out.mono ?_;rintro m y ⟨rfl,rfl⟩;go_wp2_with fail;refine w.out.mono ?_;exact Je):=h
def Jg (h:p:=by
 go_enter func244,ntmps244;exact cm):=h
def Jh (h:p:=by
 go_wp2_with fail;exact ajY):=h
def pJ (h:p:=by repeat(first|with_reducible exact Kept.refl _ _|(with_reducible refine Kept.setCell ?_ (.inl F) _))):=h
def il (h:p:=by
 go_wp2_with fail;exact su):=h
def Ji (h:p:=by
 clear e;exact ajZ):=h
def zZ (h:p:=by
 go_enter func240,ntmps240;exact cm):=h
def Jj (h:p:=by exact⟨rfl,by rw[V.out];exact h.out,f.out⟩):=h
def sk (h:p:=by
 go_enter func251,ntmps251;exact il):=h
def z1 (h:p:=by exact⟨0,fun j=>by rw[f j,B o],.inl m⟩):=h
def z6 (h:p:=by exact⟨a,fun j=>by rw[f j,z o],.inr rfl⟩):=h
def Jk (h:p:=by
 have v:=b.cell c i;rw[n];by_cases j:c=a
 . subst j;rw[List.getElem?_set_self (by omega)];simp[go_sem,h]
 . have m:¬a=c:=fun b=>j b.symm;rw[yP m,<-v];simp[go_sem,j,m]):=h
def Jl (h:p:=by
 go_wp2_with fail;go_ret;exact⟨by rw[f.out]<;>rfl,(aq _ _).alloc (aB _) _⟩):=h
def pK (h:p:=by
 go_wp2_with fail;exact aj0):=h
def Jm (h:p:=by
 go_wp2_with fail;go_end0;exact NL):=h
def Jn (h:p:=by rw[o.frozen (p:=⟨W.heap.size,b,none⟩) (by simp),x b]):=h
def z7 (h:p:=by
 go_enter func180,ntmps180;exact il):=h
def vH (h:p:=by
 go_wp2_with fail;exact aj1):=h
def z8 (h:p:=by
 go_enter func364,ntmps364;go_wp2_with fail;go_ret;exact⟨by show _=Ending.returned (j ((a-f:Nat):Int));rw[t.out]<;>rfl,rfl⟩):=h
def vI (h:p:=by
 clear a;go_enter func328,ntmps328;go_wp2_with fail;refine s.out.mono ?_;rintro l y ⟨rfl,rfl⟩;go_wp2_with fail;refine t.out.mono ?_;rintro l m ⟨rfl,j⟩;have d0:al m o 0 (I h):=KH;go_wp2_with fail;refine(u.out _ j).mono ?_;rintro l w3 ⟨rfl,rfl⟩;exact NM):=h
def vJ (h:p:=by
 clear a;go_enter func328,ntmps328;go_wp2_with fail;refine s.out.mono ?_;rintro l D ⟨rfl,rfl⟩;go_wp2_with fail;refine t.out.mono ?_;rintro l y ⟨rfl,j⟩;have d0:al y o 0 (I h):=KH;go_wp2_with fail;refine(u.out _ j).mono ?_;rintro l w3 ⟨rfl,rfl⟩;go_wp2_with fail;refine(L.out _ m m _).mono ?_;rintro l F ⟨rfl,rfl⟩;exact NM):=h
def Jo (h:p:=by
 clear h e b;go_enter func436,ntmps436;exact Jp):=h
def Jp (h:p:=by
 go_wp2_with fail;exact aj2):=h
def z9 (h:p:=by
 clear a;go_wp2_with fail;refine i.out.mono ?_;exact Np):=h
def ej (h:p:=by
 clear b;exact NN):=h
def vK (h:p:=by
 have D:=h.out.V8;have j:=l (dh f g e d i);go_enter dj,dk;go_wp2_with fail;refine j.out.mono ?_;rintro I P ⟨rfl,a⟩;have b:=h.out.more (Below.kept a []) F;exact ej):=h
def Jq (h:p:=by
 have p:=h.out.V8;have j:=l (dh e g d c k);go_enter dj,dk;go_wp2_with fail;refine j.out.mono ?_;rintro q r ⟨rfl,a⟩;have b:=h.out.more (Below.kept a []) F;have d32:=b.Ya;exact ej):=h
def Jr (h:p:=by
 have p:=h.out.V8;have j:=l (dh e g d c k);go_enter dj,dk;go_wp2_with fail;refine j.out.mono ?_;rintro q r ⟨rfl,a⟩;have b:=h.out.more (Below.kept a []) F;have d33:=b.Xk;exact ej):=h
def Js (h:p:=by
 have p:=h.out.V8;have j:=l (dh e g d c k);go_enter dj,dk;go_wp2_with fail;refine j.out.mono ?_;rintro q r ⟨rfl,a⟩;have b:=h.out.more (Below.kept a []) F;have d34:=b.Xl;exact ej):=h
def Jt (h:p:=by
 have p:=h.out.V8;have j:=l (dh e g d c k);go_enter dj,dk;go_wp2_with fail;refine j.out.mono ?_;rintro q r ⟨rfl,a⟩;have b:=h.out.more (Below.kept a []) F;have d35:=b.Xq;exact ej):=h
def Ju (h:p:=by
 go_wp2_with fail;exact aj3):=h
def Jv (h:p:=by
 go_wp2_with fail;refine n.out.mono ?_;rintro l t ⟨rfl,q,h⟩;go_wp2_with fail;go_ret;exact Jw):=h
def Jw (h:p:=by exact⟨rfl,b.out.Xy (h.mono F) q,h.mono F⟩):=h
def ko (h:p:=by
 go_enter func444,ntmps444;exact aj4):=h
def Aa (h:p:=by
 rcases C with rfl|rfl|rfl
 . exact ko
 . cases r
   . cases J
     . exact ko
     . exact ko
   . exact ko
 . exact ko):=h
def vL (h:p:=by
 replace d:R=((0,1),c.b):=d;exact NQ):=h
def Ac (h:p:=by
 cases aT
 . exact vL
 cases aN
 . rcases P with rfl|rfl|rfl
   . exact Ba
   . exact Ba
   . cases ar
     . replace d:R=((O,0),{c.b with o:=bt c.b.o (f-2147483648) 4 (b+192)}):=d;subst d;exact NR
     . exact Ba
 . rcases P with rfl|rfl|rfl
   . exact Bb
   . exact Bb
   . cases ar
     . replace d:R=((O,0),{c.b with o:=bt c.b.o (f-2147483648) 4 (b+128)}):=d;subst d;exact NS
     . exact Bb):=h
def ajx (h:p:=by
 go_ret2;exact so):=h
def nh (h:p:=by
 replace d:P=((0,1),c.b):=by rw[d];simp
 exact NT):=h
def Ad (h:p:=by
 cases a8
 . exact nh
 cases aX
 . exact nh
 cases aE
 . rcases Q with rfl|rfl|rfl
   . exact Bc
   . exact Bc
   . cases ah
     . replace d:P=((T,0),{c.b with o:=bt c.b.o aC 4 (b+192)}):=by rw[d];simp
       subst d;as_aux_lemma=>
        exact NR
     . exact Bc
 . rcases Q with rfl|rfl|rfl
   . exact Bd
   . exact Bd
   . cases ah
     . replace d:P=((T,0),{c.b with o:=bt c.b.o aC 4 (b+128)}):=by rw[d];simp
       subst d;as_aux_lemma=>
        exact NS
     . exact Bd):=h
def sm (h:p:=by
 repeat' split
 all_goals omega):=h
def Ae (h:p:=by
 repeat' split
 all_goals (dsimp only;omega)):=h
def pL (h:p:=by exact⟨by dsimp only;omega,by dsimp only;omega⟩):=h
def Af (h:p:=by
 repeat' split
 all_goals exact this):=h
def Jx (h:p:=by
 go_wp2_with fail;refine f.out.mono ?_;rintro z B ⟨rfl,j,y⟩;have m:=l j;clear j;go_wp2_with fail;go_ret2;exact⟨rfl,m.out,y⟩):=h
def Jy (h:p:=by cases b.testBit i<;>cases c.testBit i<;>simp[d]):=h
def Jz (h:p:=by
 go_enter func211,ntmps211;go_wp2;go_ret;exact⟨by rw[show C.isLet a=false by simp[C.isLet];omega];rfl,rfl⟩):=h
def JA (h:p:=by
 go_round;case rel=>exact⟨i,c/2,d,b,by omega,by omega,by go_num,by go_num,by go_num,by go_num,e⟩
 case measure=>simp[intOf]):=h
def pM (h:p:=by
 go_wp2_with fail;all_goals (go_ret;refine⟨eM ?_,rfl⟩;rw[c.out];simp_all)):=h
def vM (h:p:=by
 rw[c,d]at this;rw[this];simp):=h
def JB (h:p:=by
 go_wp2_with fail;go_ret;exact⟨eM (by rw[d.out]<;>rfl),rfl⟩):=h
def jI (h:p:=by
 go_enter func264,ntmps264;exact NU):=h
def Ah (h:p:=by
 have h:=e5 b c;have i:=e5 a d;obtain⟨j,k⟩:=h;obtain⟨l,n⟩:=i;exact pN):=h
def pN (h:p:=by
 go_enter func266,ntmps266;exact NU):=h
def sn (h:p:=by
 go_wp2_with fail;all_goals (go_ret;refine⟨xG ?_,rfl⟩;rw[c.out];simp_all<;>try first|omega|(rw[dY];simp;omega))):=h
def JC (h:p:=by
 go_wp2_with fail;refine r.out.mono ?_;rintro j l ⟨rfl,rfl⟩;go_wp2_with fail;refine s.out.mono ?_;exact ex):=h
def Ai (h:p:=by
 go_wp2_with fail;exact aj5):=h
def JE (h:p:=by
 go_enter func282,ntmps282;exact Ai):=h
def JF (h:p:=by
 go_enter func189,ntmps189;go_wp2_with(go_at_call 135;refine(e0 _ _).mono ?_;rintro l j ⟨rfl,rfl⟩);go_ret;exact⟨eM (by rw[r.out]),rfl⟩):=h
def JG (h:p:=by rcases d with rfl|rfl|rfl|rfl|rfl|rfl|rfl|rfl|rfl|rfl|rfl|rfl|rfl|rfl|rfl|rfl|rfl|rfl|rfl|rfl|rfl|rfl|rfl|rfl|rfl|rfl|rfl|rfl|rfl|rfl|rfl|rfl<;>rfl):=h
def so (h:p:=by exact⟨rfl,a.out,Kept.refl _ _⟩):=h
def JH (h:p:=by
 go_enter func256,ntmps256;exact pK):=h
def JI (h:p:=by repeat(first|exact Kept.refl _ _|refine Kept.drew ?_|refine Kept.alloc ?_ _)):=h
def JJ (h:p:=by
 go_enter func186,ntmps186;go_wp2_with fail;refine(e _).out.mono ?_;rintro j m ⟨rfl,l⟩;go_wp2_with(go_at_call 255;refine(mH _ _).mono ?_;rintro j m ⟨rfl,rfl⟩);go_ret;exact⟨eM (by rw[h.out];rfl),((Kept.refl _ _).alloc _).trans l⟩):=h
def JK (h:p:=by exact ab (v:=.agg #[j a.enable,j a.Wr,.bool a.lost,.string a.rx,.string a.Wc]) yZ rfl ⟨rfl,gn⟩):=h
def JL (h:p:=by
 go_region_with fail;all_goals
  go_wp2_with fail;exact ab (v:=.tuple #[j 0,.agg #[j a.enable,j a.Wr,.bool a.lost,.string a.rx,.string a.Wc]]) uT rfl ⟨rfl,gn⟩):=h
def JM (h:p:=by
 go_enter func378,ntmps378;exact cm):=h
def JN (h:p:=by
 have f:Hid (g=false):=pX;exact NV):=h
def JO (h:p:=by
 have f:Hid (g=H):=pX;exact NV):=h
def JP (h:p:=by
 clear a p;exact NW):=h
def JQ (h:p:=by
 go_enter func377,ntmps377;go_wp2_with(first|(go_at_call 335;refine(v _).out.mono ?_;rintro g l ⟨rfl,rfl⟩)|(go_at_call 375;refine(H.out _ K).mono ?_;rintro g l ⟨rfl,rfl⟩)|(go_at_call 376;refine(s _).out.mono ?_;rintro g l ⟨rfl,rfl⟩));exact ab (v:=.tuple #[.agg #[j 0,j 0,j 0],j 1]) y5 rfl ⟨rfl,gn⟩):=h
def JR (h:p:=by rw[d,B l];exact(oi a f 1 c g mode R).symm):=h
def JS (h:p:=by
 go_enter func334,ntmps334;go_wp2_with fail;refine(L.out _ O).mono ?_;rintro j l ⟨rfl,z,x⟩;go_wp2_with fail;exact JY):=h
def JT (h:p:=by
 go_enter func260,ntmps260;go_wp2_with(first|(go_at_call 331;refine(w.out _ C).mono ?_;rintro l m ⟨rfl,rfl⟩)|(go_at_call 198;refine(ou _).mono ?_;rintro l m ⟨rfl,rfl⟩));exact ab (v:=.tuple #[j o,.agg #[j (-1),j 0]]) (by simp[results,results260,go_sem]) rfl ⟨rfl,gn⟩):=h
def Aj (h:p:=by rw[z (by simpa using e)]at d;cases d):=h
def fH (h:p:=by repeat(first|(with_reducible exact Kept.refl _ _)|(with_reducible refine Kept.setCell ?_ (hy F) _)|(with_reducible refine Kept.drew ?_)|(with_reducible refine Kept.alloc ?_ _))):=h
def io (h:p:=by repeat(first|(with_reducible exact Kept.refl _ _)|(with_reducible refine Kept.setCell ?_ (ch aL) _)|(with_reducible refine Kept.drew ?_)|(with_reducible refine Kept.alloc ?_ _)|(with_reducible refine Kept.trans ?_ (b.mono F)))):=h
def vN (h:p:=by repeat(first|(with_reducible exact Kept.refl _ _)|(with_reducible refine Kept.setCell ?_ (ch aL) _)|(with_reducible refine Kept.drew ?_)|(with_reducible refine Kept.alloc ?_ _)|(with_reducible refine Kept.trans ?_ (n.mono F))|(with_reducible refine Kept.trans ?_ (b.mono F)))):=h
def Ak (h:p:=by
 rw[B (by simp)];rw[show j4 ((k,0),n) i e d=.tuple #[.agg #[j k,j e],.agg #[j (-1),j 0]]from rfl];go_enter func339,ntmps339;go_wp2_with fail;refine(o.out _ Y).mono ?_;rintro v m ⟨rfl,f,b⟩;have Q:al m a.heap.size 0 (j 0):=eU;have R:al m a.heap.size 1 (j 0):=eU;have G:dX m a.heap.size:=jL;have T:a.heap.size<m.heap.size:=fn;have U:al m (a.heap.size+1) 0 (j 0):=eU;have V:al m (a.heap.size+1) 1 (j 0):=eU;have I:dX m (a.heap.size+1):=jL;have X:a.heap.size+1<m.heap.size:=fn;have z:Hid (E ((m.alloc (.cells #[j (-1),j 0] 118)).alloc (.cells #[j (-1),j 0] 118)) p q (h.V7 n)):=pZ;go_upto_region 6 with(first|(go_at_call 82;refine(cc _ _ _).mono ?_;rintro v N ⟨rfl,rfl⟩)|(go_at_call 261;refine(ah.out _ z).mono ?_;rintro v y ⟨rfl,rfl⟩)|(go_at_call 340;refine(aj.out _).mono ?_;rintro v y ⟨rfl,rfl⟩)|(go_at_call 342;refine(ai.out _).mono ?_;rintro v y ⟨rfl,rfl⟩)|(go_at_call 274;refine(ag.out _).mono ?_;rintro v y ⟨rfl,rfl⟩));go_region;all_goals
  go_wp2_with fail;refine ab (v:=.tuple #[.agg #[j k,j e],.agg #[j (-1),j 0]]) y9 rfl ⟨rfl,f.more (G:=[a.heap.size,a.heap.size+1]) ?_ ad ad,?_⟩
  . exact fH
  . exact io):=h
def JU (h:p:=by
 rw[f,g,z (by simp),B rfl];unfold es at a;exact JV):=h
def JV (h:p:=by
 simp at a;obtain⟨_,a|a|a|a|a⟩:=a<;>subst a<;>rfl):=h
def JW (h:p:=by
 go_wp2_with fail;exact vO):=h
def Al (h:p:=by repeat(first|(with_reducible exact Kept.refl _ _)|(with_reducible refine Kept.Xb ?_ _ _)|(with_reducible refine Kept.setCell ?_ (ch aL) _)|(with_reducible refine Kept.drew ?_)|(with_reducible refine Kept.alloc ?_ _)|(with_reducible refine Kept.trans ?_ (h.mono F)))):=h
def vO (h:p:=by
 go_ret;exact JX):=h
def JX (h:p:=by exact⟨rfl,(Kept.refl _ _).alloc _⟩):=h
def JY (h:p:=by
 go_end0;exact⟨rfl,z,((Kept.refl _ _).alloc _).trans x⟩):=h
def J0 (h:p:=by
 clear aG H;as_aux_lemma=>
  clear ar au aH bh bi ac b bg ax ae aw av;go_enter o4,o5;go_wp2_with fail;refine(aa.out _ az).mono ?_;rintro M r ⟨rfl,z,b⟩;obtain⟨ay,aS,a1,a2,bD,bZ,ce,cj,ck,cf,cl,cg,cm,ch,cn,ci⟩:a7 r a.heap.size 0 0 0 0 0 0:=i1;have W:=l z;have d0:=z.V8;have J:Hid (r.there a.heap.size 0 6):=zl;go_upto_region 10 with(go_at_call 416;refine(Z _ W.out.Wt.V8).out.mono ?_;rintro M ai ⟨rfl,I⟩;rw[I];clear I ai);refine gi ?_;refine wpList_plain rfl (fun p d=>?_);go_simp;refine d _ _ ?_;clear d p;refine wpList_plain rfl (fun p d=>?_);go_simp;refine d _ _ ?_;clear d p;refine gj rfl _ _ _ rfl a.heap.size 0 #[j 0,j 0,j 0,j 0,j 2,j f] rfl rfl J.out nR pc ?_;refine gl ?_;have o:=kf r a.heap.size 0 [j 0,j 0,j 0,j 0,j 2,j f] J.out;have G:V (World.setCells r a.heap.size 0 [j 0,j 0,j 0,j 0,j 2,j f]) N s T U t _:=G0;have D:Kept [s,t] a (World.setCells r a.heap.size 0 [j 0,j 0,j 0,j 0,j 2,j f]):=G1;obtain⟨m,B⟩:=y (World.setCells r a.heap.size 0 [j 0,j 0,j 0,j 0,j 2,j f]);rw[<-B]at o G D;have ak:al m a.heap.size 0 (j 0):=ph;have am:al m a.heap.size 1 (j 0):=pi;have an:al m a.heap.size 2 (j 0):=pj;have ao:al m a.heap.size 3 (j 0):=pk;have ap:al m a.heap.size 4 (j 2):=pl;have aq:al m a.heap.size 5 (j f):=pm;rw[show World.setCells r a.heap.size 0 (List.toArray [j 0,j 0,j 0,j 0,j 2,j f]).toList=m from B.symm];clear B o;go_wp2_with fail;exact ab (v:=.agg #[j 0,j 0,j 0,j 0,j 2,j f]) pd rfl ⟨rfl,G,D⟩):=h
def J1 (h:p:=by
 clear aG H;as_aux_lemma=>
  clear ar au aH bh bi ac b bg ax ae aw av;go_enter o4,o5;go_wp2_with fail;refine(aa.out _ az).mono ?_;rintro ck r ⟨rfl,z,b⟩;obtain⟨J,M,W,ai,ay,aS,a1,cf,cg,a2,ch,bD,ci,bZ,cj,ce⟩:a7 r a.heap.size 0 0 0 0 0 0:=i1;have I:Hid (r.there a.heap.size 0 6):=zl;go_upto_region 7 with fail;refine gi ?_;refine wpList_plain rfl (fun p d=>?_);go_simp;refine d _ _ ?_;clear d p;refine wpList_plain rfl (fun p d=>?_);go_simp;refine d _ _ ?_;clear d p;refine wpList_plain rfl (fun p d=>?_);go_simp;refine d _ _ ?_;clear d p;refine gj rfl _ _ _ rfl a.heap.size 0 #[j 0,j 0,j 0,j 0,j f1,j f] rfl rfl I.out nR pc ?_;refine gl ?_;have o:=kf r a.heap.size 0 [j 0,j 0,j 0,j 0,j f1,j f] I.out;have G:V (World.setCells r a.heap.size 0 [j 0,j 0,j 0,j 0,j f1,j f]) N s T U t _:=G0;have D:Kept [s,t] a (World.setCells r a.heap.size 0 [j 0,j 0,j 0,j 0,j f1,j f]):=G1;obtain⟨m,B⟩:=y (World.setCells r a.heap.size 0 [j 0,j 0,j 0,j 0,j f1,j f]);rw[<-B]at o G D;have ak:al m a.heap.size 0 (j 0):=ph;have am:al m a.heap.size 1 (j 0):=pi;have an:al m a.heap.size 2 (j 0):=pj;have ao:al m a.heap.size 3 (j 0):=pk;have ap:al m a.heap.size 4 (j f1):=pl;have aq:al m a.heap.size 5 (j f):=pm;rw[show World.setCells r a.heap.size 0 (List.toArray [j 0,j 0,j 0,j 0,j f1,j f]).toList=m from B.symm];clear B o;go_wp2_with fail;exact ab (v:=.agg #[j 0,j 0,j 0,j 0,j f1,j f]) pd rfl ⟨rfl,G,D⟩):=h
def vP (h:p:=by
 show _=_;rw[<-c,ju,hz,f,dp,fk b a];omega):=h
def Am (h:p:=by intro d;subst d;revert c;decide):=h
def J2 (h:p:=by
 go_wp2_with(go_at_call 211;refine(qg _ _).mono ?_;rintro y j ⟨rfl,rfl⟩);go_round;case rel=>exact⟨i,c,b*2,e,y1,y2,by omega,by go_num,by go_num,by go_num,rfl,rfl,rfl,r,q,l⟩
 case measure=>simp[intOf]):=h
def J3 (h:p:=by
 rcases uG e with d|d
 . have h:=wJ (b:=0) g d f;have y:bits BinOp.and IntKind.i64 (e) 1=0:=lA;have l:Hid (c+(b*2)*C.draw (C.ah a.data.toList i) (e/2) y1 y2 k=m):=lB;have j:G c:=lC;clear d f h g;go_wp2;go_round;case rel=>exact⟨i,c,b*2,e/2,y1,y2,by omega,by go_num,by go_num,by go_num,rfl,rfl,rfl,r,q,l⟩
   case measure=>simp[intOf]
 . have h:=wJ (b:=1) g d f;have y:bits BinOp.and IntKind.i64 (e) 1=1:=lA;have l:Hid (c+b+(b*2)*C.draw (C.ah a.data.toList i) (e/2) y1 y2 k=m):=lB;have j:c+b<4294967296:=lC;clear d f h g;go_wp2;go_round;case rel=>exact⟨i,c+b,b*2,e/2,y1,y2,by omega,by go_num,by go_num,by go_num,rfl,rfl,rfl,r,q,l⟩
   case measure=>simp[intOf]):=h
def J4 (h:p:=by
 go_wp2;go_ret;exact⟨by rw[c,g];rfl,(((aq _ _).alloc (aB _) _).alloc F _).alloc ad _⟩):=h
def An (h:p:=by
 go_wp2;go_ret;exact⟨by rw[c];rfl,((aq _ _).alloc (aB _) _).alloc F _⟩):=h
def J5 (h:p:=by
 go_wp2;go_ret;exact⟨by simp[s,t,v,C,H],a.below⟩):=h
def J6 (h:p:=by
 go_enter func136,ntmps136;go_wp2;go_ret;exact⟨congrArg (fun f=>Ending.returned (j f)) (by unfold sizeOf;rw[B (by omega)]),rfl⟩):=h
def Ao (h:p:=by
 go_enter func137,ntmps137;exact nc):=h
def ni (h:p:=by
 go_enter func141,ntmps141;go_wp2;go_ret;exact⟨rfl,((aq _ _).alloc (aB _) _).alloc F _⟩):=h
def ajy (h:p:=by
 show i=_;rw[w.out,O.out];rfl):=h
def J7 (h:p:=by exact(nA a.below _ (aB _) _ _ _ _ _ _).alloc ad _):=h
def Ap (h:p:=by exact nA a.below _ (aB _) _ _ _ _ _ _):=h
def Aq (h:p:=by exact⟨1,by omega,by omega,rfl,hI.start _ _,rfl⟩):=h
def J8 (h:p:=by
 go_wp2;go_roundw;case rel=>exact⟨a+1,f,by omega,by omega,by go_num,rfl,rfl,c.alloc _,by rw[show b+1- (a+1)=b-a by omega];exact e⟩
 case measure=>exact a4):=h
def J9 (h:p:=by exact⟨a+1,some W,by omega,by omega,by go_num,rfl,rfl,c,by rw[show b+1- (a+1)=b-a by omega];exact e⟩):=h
def Ka (h:p:=by
 have e:Hid (h=true):=A6;clear a;exact Ar):=h
def Ar (h:p:=by
 go_enter func134,ntmps134;exact pK):=h
def Kb (h:p:=by
 go_enter func84,ntmps84;go_wp2_with fail;go_ret;exact⟨eM (by rw[f.out]),(Kept.refl _ _).alloc _⟩):=h
def pO (h:p:=by
 go_wp2_with fail;exact aj6):=h
def Kc (h:p:=by go_ret;exact⟨xG (by simp only[holds];rw[dY];simp;omega),(Kept.refl _ _).alloc _⟩):=h
def Kd (h:p:=by
 refine(x.out _).mono ?_;rintro i l ⟨rfl,rfl⟩;go_wp2_with fail;refine(z.out _).mono ?_;rintro i l ⟨rfl,rfl⟩;go_wp2_with fail;exact As):=h
def As (h:p:=by go_ret;exact⟨xG (by simp[holds]),(Kept.refl _ _).alloc _⟩):=h
def nj (h:p:=by repeat(first|(with_reducible exact g)|(with_reducible refine V.alloc ?_ _)|(with_reducible refine V.drew ?_)|(with_reducible refine V.other _ _ _ ?_ m m m m m))):=h
def pP (h:p:=by exact s.setCell (ch aL) _ |>.setCell (ch aL) _ |>.setCell (ch aL) _):=h
def At (h:p:=by
 simp only[bK]at c;obtain⟨⟨rfl,rfl,rfl⟩,rfl⟩:=c;go_wp2_with(go_at_call 421;refine(bp.out _).mono ?_;rintro B W ⟨rfl,z⟩;rw[z];clear z W);refine(bq.out _ _ bt).mono ?_;rintro B ai ⟨rfl,y,p⟩;have R:=l (y);have J:=a2.more p ad;have D:=bs.more p ad;have M:=br.trans (p.mono F);have I:=y.c3;rw[xQ]at I;have ag:=J.cell 5 _ rfl;go_upto_region 11 with fail;go_region_with(first|(go_at_call 395;refine(bo.out _).mono ?_;rintro B ak ⟨rfl,j⟩;have i:=D.drew.kept (Below.kept j []);have ax:=i.cell 0 _ rfl;have ay:=i.cell 1 _ rfl;have az:=i.cell 2 _ rfl;have aA:=i.Wb;have aB:=i.lt));all_goals
  have i:=D.drew.kept (Below.kept j []);have ax:=i.cell 0 _ rfl;have ay:=i.cell 1 _ rfl;have az:=i.cell 2 _ rfl;obtain⟨-,aA,aB⟩:=id i;have g:=R.out.drew.kept (Below.kept j []);have s:=M.drew.trans ((Below.kept j []).mono F);go_wp2_with fail;exact F6):=h
def ajz (h:p:=by
 go_wp2_with fail;exact F6):=h
def vQ (h:p:=by
 rw[z (by decide)]at e;simp only[bK]at e;obtain⟨⟨rfl,rfl,rfl⟩,rfl⟩:=e;go_enter func402,ntmps402;go_wp2_with(first|(go_at_call 432;refine(d.out _ t.out).mono ?_;rintro y j ⟨rfl,i⟩;rw[i];clear i j)|(go_at_call 433;refine(d.out _ t.out).mono ?_;rintro y j ⟨rfl,i⟩;rw[i];clear i j)|(go_at_call 434;refine(d.out _ t.out).mono ?_;rintro y j ⟨rfl,i⟩;rw[i];clear i j)|(go_at_call 435;refine(d.out _ t.out).mono ?_;rintro y j ⟨rfl,i⟩;rw[i];clear i j));refine(al.out _).mono ?_;rintro y W ⟨rfl,Q⟩;have l:=X.kept (Below.kept Q []);have g:=t.out.kept (Below.kept Q []);have s:=U.trans ((Below.kept Q []).mono F);exact NX):=h
def Ke (h:p:=by
 go_enter func402,ntmps402;go_wp2_with(first|(go_at_call 432;refine(d.out _ t.out).mono ?_;rintro y j ⟨rfl,i⟩;rw[i];clear i j)|(go_at_call 433;refine(d.out _ t.out).mono ?_;rintro y j ⟨rfl,i⟩;rw[i];clear i j)|(go_at_call 434;refine(d.out _ t.out).mono ?_;rintro y j ⟨rfl,i⟩;rw[i];clear i j)|(go_at_call 435;refine(d.out _ t.out).mono ?_;rintro y j ⟨rfl,i⟩;rw[i];clear i j));refine(Z.out _ M.out).mono ?_;rintro y ay ⟨rfl,W,Q⟩;have ai:=L.more Q ad;have ak:=M.out.XE Q W;have ag:=N.trans (Q.mono F);go_wp2_with fail;refine(Y.out _ _).mono ?_;rintro y az ⟨rfl,z⟩;have l:=ai.kept (Below.kept z []);have g:=ak.kept (Below.kept z []);have s:=ag.trans ((Below.kept z []).mono F);exact NX):=h
def Kf (h:p:=by
 go_enter func402,ntmps402;have Q:=aa.drew.cell 5 _ rfl;go_upto_region 24 with(first|(go_at_call 432;refine(d.out _ t.out).mono ?_;rintro z l ⟨rfl,i⟩;rw[i];clear i l)|(go_at_call 433;refine(d.out _ t.out).mono ?_;rintro z l ⟨rfl,i⟩;rw[i];clear i l)|(go_at_call 434;refine(d.out _ t.out).mono ?_;rintro z l ⟨rfl,i⟩;rw[i];clear i l)|(go_at_call 435;refine(d.out _ t.out).mono ?_;rintro z l ⟨rfl,i⟩;rw[i];clear i l));go_region_with(first|(go_at_call 395;refine(Y.out _ _).mono ?_;rintro z W ⟨rfl,y⟩;have j:=L.drew.kept (Below.kept y []);have B:=j.cell 0 _ rfl;have D:=j.cell 1 _ rfl;have I:=j.cell 2 _ rfl;have J:=j.Wb;have P:=j.lt));all_goals
  have j:=L.drew.kept (Below.kept y []);have B:=j.cell 0 _ rfl;have D:=j.cell 1 _ rfl;have I:=j.cell 2 _ rfl;obtain⟨-,J,P⟩:=id j;have g:=M.out.drew.kept (Below.kept y []);have s:=N.drew.trans ((Below.kept y []).mono F);exact F7):=h
def pQ (h:p:=by
 go_enter func429,ntmps429;exact aj7):=h
def Kg (h:p:=by
 cases ai
 . exact Be
 . cases aj
   . exact Be
   . cases ak
     . exact Be
     . exact pQ):=h
def Kh (h:p:=by
 rintro j l ⟨rfl,rfl⟩;exact pK):=h
def Au (h:p:=by
 rintro l m ⟨rfl,a⟩;exact NN):=h
def Ki (h:p:=by
 clear c t s;go_wp2_with fail;refine(Z.out _).mono ?_;rintro j w3 ⟨rfl,rfl⟩;go_wp2_with fail;refine(aa.out _).mono ?_;rintro j z ⟨rfl,rfl⟩;go_wp2_with fail;refine(V.out _).mono ?_;rintro j l ⟨rfl,rfl⟩;go_wp2_with fail;refine(W.out _).mono ?_;rintro j m ⟨rfl,rfl⟩;go_wp2_with fail;refine(X.out _).mono ?_;rintro j p ⟨rfl,rfl⟩;go_wp2_with fail;refine(Y.out _).mono ?_;rintro j y ⟨rfl,rfl⟩;go_wp2_with fail;go_end0;refine⟨rfl,ac.out,?_⟩;repeat(first|with_reducible exact Kept.refl _ _|with_reducible exact ab.out|(with_reducible refine Kept.setCell ?_ (.inl F) _)|(with_reducible refine Kept.drew ?_))):=h
def Kj (h:p:=by
 rw[<-g]at f|-;clear g;go_enter oT,oU;go_wp2_with fail;refine f.out.mono ?_;rintro p q ⟨rfl,l,j⟩;go_wp2_with fail;go_end0;exact⟨rfl,l,j⟩):=h
def Kk (h:p:=by
 have d1:=xn b;have l:=j1 (b/2);have hd:b/2<=b:=kk;have g:((b-b/2%2*2:Nat):Int)=(b:Int)- ((b/2%2:Nat):Int)*2:=J;rw[g]at a;have m:b/2%2<2:=J;obtain⟨s,j⟩:=y (b/2%2);rw[<-j]at l a m|-;obtain⟨t,k⟩:=y (b/2);rw[<-k]at d1 l hd;clear j k g;exact gY):=h
def Kl (h:p:=by
 have j:(b:Int).tmod 8=((b%8:Nat):Int):=iz b 8;obtain⟨l,i⟩:=y (b%8);rw[<-i]at j a|-;clear i;exact gY):=h
def gY (h:p:=by
 go_enter oT,oU;exact Bf):=h
def Km (h:p:=by
 have m:(b:Int).tmod 2=((b%2:Nat):Int):=iz b 2;have g:((b-b%2:Nat):Int)=(b:Int)- ((b%2:Nat):Int):=J;rw[g]at a;have l:b%2<2:=J;obtain⟨r,j⟩:=y (b%2);rw[<-j]at m a l|-;clear j g;exact gY):=h
def ajA (h:p:=by
 rintro j l ⟨rfl,rfl⟩;exact Bf):=h
def vR (h:p:=by
 rw[<-e]at d a|-;exact aj8):=h
def Kn (h:p:=by
 have d:Hid (∀i,O 327 #[j (b:Int),j 546] (j ((b&&&546:Nat):Int)) i):=l (fun i=>fA b 546 o m i);obtain⟨u,e⟩:=y (b&&&546);exact vR):=h
def Ko (h:p:=by
 have D:((aW,aX,aY),ar)=(((0:Int),(2:Int),(H:Int)),a):=w.trans (z R);simp only[bK]at D;obtain⟨⟨rfl,rfl,rfl⟩,rfl⟩:=D;go_wp2_with fail;refine(bL.out _).mono ?_;rintro G I ⟨rfl,l⟩;have j:=W.kept (Below.kept l []);have ad:=j.cell 0 _ rfl;have aM:=j.cell 1 _ rfl;have aN:=j.cell 2 _ rfl;obtain⟨-,aO,aP⟩:=id j;have ac:=aa.out.kept (Below.kept l []);have ae:=J.trans ((Below.kept l []).mono F);exact F9):=h
def ajB (h:p:=by
 have bh:((aW,aX,aY),ar)=(((bt:Int),(-1:Int),(0:Int)),dV {a with f:=ce a.f (b:Int) _} p (aC:Int)):=w;simp only[bK]at bh;obtain⟨⟨rfl,rfl,rfl⟩,ax⟩:=bh;have aT:ar.V3=a.V3:=Hd;simp only[<-ax]at bg;have ak:=l aa.out.drew;have aA:=y.drew;have bn:=W.drew;go_upto_region 8 with fail;go_region_held3 (fun i=>i.cell? ⟨g,1,none⟩=some (I d)/\i.cell? ⟨n.heap.size,4,none⟩=some (j (b:Int))) (first|exact⟨ak.out.c1,aA.cell 4 _ rfl⟩|exact⟨M.out.c1,L.cell 4 _ rfl⟩) (first|(go_at_call 253;refine(aV.out _ ak.out).mono ?_;rintro ag cf ⟨rfl,z⟩;have M:=l (ak.out.kept (Below.kept z []));have L:=aA.kept (Below.kept z [])));all_goals
  have M:=l (ak.out.kept (Below.kept z []));have L:=aA.kept (Below.kept z []);have bm:=bn.kept (Below.kept z []);have bj:=J.drew.trans ((Below.kept z []).mono F);clear aa y W J ak aA bn bN bP bQ bR bS bT;have am:=l M.out.drew;have aB:=L.drew;have bp:=bm.drew;go_upto_region 9 with fail;go_region_held3 (fun i=>i.cell? ⟨g,1,none⟩=some (I d)/\i.cell? ⟨n.heap.size,4,none⟩=some (j (b:Int))) (first|exact⟨am.out.c1,aB.cell 4 _ rfl⟩|exact⟨P.out.c1,B.cell 4 _ rfl⟩) (first|(go_at_call 430;refine(aU.out _ am.out).mono ?_;rintro ag cg ⟨rfl,D⟩;have P:=l (am.out.kept (Below.kept D []));have B:=aB.kept (Below.kept D [])));all_goals
   have P:=l (am.out.kept (Below.kept D []));have B:=aB.kept (Below.kept D []);have bo:=bp.kept (Below.kept D []);have bk:=bj.drew.trans ((Below.kept D []).mono F);clear M L bm bj am aB bp;have bO:=B.cell 0 _ rfl;have ai:=l P.out.drew;have az:=B.drew;have bl:=bo.drew;go_upto_region 16 with(first|(go_at_call 374;refine(bq.out _).mono ?_;rintro ag aS ⟨rfl,R⟩;rw[R];clear R aS)|(go_at_call 362;refine(bs.out _).mono ?_;rintro ag aS ⟨rfl,R⟩;rw[R];clear R aS));go_region_held3 (fun i=>i.cell? ⟨g,1,none⟩=some (I d)/\i.cell? ⟨n.heap.size,4,none⟩=some (j (b:Int))) (first|exact⟨ai.out.c1,az.cell 4 _ rfl⟩|exact⟨aR.out.c1,ay.cell 4 _ rfl⟩) (first|(go_at_call 431;refine(bM.out _ ai.out).mono ?_;rintro ag cd ⟨rfl,bi,G⟩;have aR:=l (ai.out.XE G bi);have ay:=az.more G ad));all_goals
    have aR:=l (ai.out.XE G bi);have ay:=az.more G ad;have bV:=bl.more G ad;have bU:=bk.drew.trans (G.mono F);clear P B bo bk ai az bl bO;have cc:=ay.cell 1 _ rfl;go_wp2_with fail;refine(bg.out _ aR).mono ?_;rintro ag bc ⟨rfl,aI,aQ⟩;have ba:=ay.more aQ ad;have aH:=bV.more aQ ad;have bb:=bU.trans (aQ.mono F);exact Ok):=h
def ajC (h:p:=by
 have aS:((aW,aX,aY),ar)=(((bt:Int),(-1:Int),(0:Int)),dV a p (aC:Int)):=w;simp only[bK]at aS;obtain⟨⟨rfl,rfl,rfl⟩,ax⟩:=aS;have aT:ar.V3=a.V3:=Hd;simp only[<-ax]at br;have R:=l aa.out.drew;have ai:=y.drew;have bh:=W.drew;go_upto_region 8 with fail;go_region_held3 (fun i=>i.cell? ⟨g,1,none⟩=some (I d)/\i.cell? ⟨n.heap.size,4,none⟩=some (j (b:Int))) (first|exact⟨R.out.c1,ai.cell 4 _ rfl⟩|exact⟨M.out.c1,L.cell 4 _ rfl⟩) (first|(go_at_call 253;refine(aV.out _ R.out).mono ?_;rintro am bS ⟨rfl,z⟩;have M:=l (R.out.kept (Below.kept z []));have L:=ai.kept (Below.kept z [])));all_goals
  have M:=l (R.out.kept (Below.kept z []));have L:=ai.kept (Below.kept z []);have bf:=bh.kept (Below.kept z []);have bd:=J.drew.trans ((Below.kept z []).mono F);clear aa y W J R ai bh bl bm bn bo bp bB;have ag:=l M.out.drew;have ak:=L.drew;have bi:=bf.drew;go_upto_region 9 with fail;go_region_held3 (fun i=>i.cell? ⟨g,1,none⟩=some (I d)/\i.cell? ⟨n.heap.size,4,none⟩=some (j (b:Int))) (first|exact⟨ag.out.c1,ak.cell 4 _ rfl⟩|exact⟨P.out.c1,B.cell 4 _ rfl⟩) (first|(go_at_call 430;refine(aU.out _ ag.out).mono ?_;rintro am bT ⟨rfl,D⟩;have P:=l (ag.out.kept (Below.kept D []));have B:=ak.kept (Below.kept D [])));all_goals
   have P:=l (ag.out.kept (Below.kept D []));have B:=ak.kept (Below.kept D []);have bN:=bi.kept (Below.kept D []);have bJ:=bd.drew.trans ((Below.kept D []).mono F);clear M L bf bd ag ak bi;have bQ:=B.cell 0 _ rfl;have bR:=B.cell 1 _ rfl;go_wp2_with(first|(go_at_call 374;refine(bq.out _).mono ?_;rintro am aA ⟨rfl,G⟩;rw[G];clear G aA)|(go_at_call 362;refine(bs.out _).mono ?_;rintro am aA ⟨rfl,G⟩;rw[G];clear G aA));refine(br.out _ P).mono ?_;rintro am bc ⟨rfl,aI,az⟩;have ba:=B.more az ad;have aH:=bN.more az ad;have bb:=bJ.trans (az.mono F);exact Ok):=h
def Kp (h:p:=by
 go_quiet ((go_at_call 135;exact bq (k.out _)));exact pO):=h
def Kr (h:p:=by
 go_wp2_with fail;exact aj9):=h
def Ks (h:p:=by
 unfold ag;obtain⟨b,q,r,s,n,o⟩:=i;dsimp only at *;have h:Hid (∀W,O 192 #[j b] (.bool false) W):=zp;subst f;clear a;go_enter oX,oY;go_wp2_with(first|(go_at_call 192;refine(h.out _).mono ?_;rintro p t ⟨rfl,rfl⟩));exact vO):=h
def Av (h:p:=by repeat(first|(with_reducible exact Kept.refl _ _)|(with_reducible refine Kept.setCell ?_ (ch aL) _)|(with_reducible refine Kept.drew ?_)|(with_reducible refine Kept.drewN ?_ _)|(with_reducible refine Kept.alloc ?_ _)|(with_reducible refine Kept.trans ?_ (e.mono F))|(with_reducible refine Kept.trans ?_ (b.mono F)))):=h
def Kt (h:p:=by
 have A:=a.out.lt;have B:=e.Xu;have C:=e.Xv;have t:=k.WE i.V1;have u:=k.WE i.V6;have n:=l (fun W h=>bU d f c i.V1 e.V1 W h);have s:=l (fun W h=>bU d f c i.V6 e.V6 W h);have j:=l (fun W h=>lh d f c k.V3 i e W h);have m:Hid (E (g.alloc (az i)) d f c):=b6;obtain⟨w,o⟩:=y (c.x.getD i.V1 0);obtain⟨x,p⟩:=y (c.x.getD i.V6 0);simp only[<-o]at t n|-;simp only[<-p]at u s|-;obtain⟨z,q⟩:=y (db c.V3 i);simp only[<-q]at j|-;unfold az at m;unfold ag at j|-;obtain⟨H,I,J,K,D,G⟩:=i;dsimp only at *;subst r;clear a k e o p q;go_enter oV,oW;go_wp2_with fail;refine(n.out _ m).mono ?_;rintro v L ⟨rfl,rfl⟩;go_wp2_with fail;refine(j.out _ m).mono ?_;rintro v M ⟨rfl,b⟩;exact Kr):=h
def jJ (h:p:=by repeat(first|(with_reducible exact Kept.refl _ _)|(with_reducible refine Kept.setCell ?_ (hy F) _)|(with_reducible refine Kept.drew ?_)|(with_reducible refine Kept.drewN ?_ _)|(with_reducible refine Kept.alloc ?_ _))):=h
def nk (h:p:=by repeat(first|(with_reducible exact Kept.refl _ _)|(with_reducible refine Kept.setCell ?_ (ch aL) _)|(with_reducible refine Kept.drew ?_)|(with_reducible refine Kept.drewN ?_ _)|(with_reducible refine Kept.alloc ?_ _)|(with_reducible refine Kept.trans ?_ (b.mono F)))):=h
def Ku (h:p:=by
 obtain⟨bT,bU,cB,cY,cZ,c0,c1,c6,c7,c2,c8,c3,c9,c4,da,c5⟩:a7 w3 g.heap.size T U V X Q R:=H8;obtain⟨db,dc,dd,di,dj,de,dk,df,dl,dg,dm,dh⟩:av w3 (g.heap.size+1) 0 0:=sf;obtain⟨i,y,z,aR,aT,B,a1,E,a9,I,bq,M⟩:av w3 s.heap.size f d:=sf;go_wp2_with fail;exact NY):=h
def Kv (h:p:=by
 clear t;go_enter func199,rA;go_upto_region 1 with fail;go_quiet ((first|(go_at_call 39;first|exact bq (ae.out _ M)|exact bq (ae.out _ (l (M.out.drewN _)))|exact bq (ae.out _ (l M.out.drew)))|(go_at_call 135;exact bq (ap.out _))));go_wp2_with(go_at_call 268;refine(P.out _).mono ?_;rintro z y ⟨rfl,rfl⟩);refine(D.out _ (l (M.out.drewN _))).mono ?_;rintro z i ⟨rfl,B,b⟩;obtain⟨bt,b8,ca,ce,cg,cj,cl,cv,cw,cn,cx,co,cy,cp,cz,cq⟩:a7 i g.heap.size s V X Y T U:=m9;obtain⟨cF,cH,cJ,cT,cU,cL,cV,cM,cW,cN,cX,cO⟩:av i (g.heap.size+1) 0 0:=lQ;have aR:=l ((((B.alloc (.cells #[j f,j d] 231)).alloc (.cells #[j Z,j 0] 231)).alloc (.cells #[j (-1),j 0] 118)).alloc (.cells #[j (-1),j 0] 118));go_wp2_with(first|(go_at_call 82;refine(cc _ _ _).mono ?_;rintro z df ⟨rfl,rfl⟩));refine(ah.out _ aR).mono ?_;rintro z y ⟨rfl,aT,e⟩;obtain⟨b7,b9,cb,cf,ci,ck,cm,cA,cB,cr,cC,cs,cD,ct,cE,cu⟩:a7 y g.heap.size s V X Y T U:=vt;obtain⟨cG,cI,cK,cY,cZ,cP,c0,cQ,c1,cR,c2,cS⟩:av y (g.heap.size+1) 0 0:=pD;obtain⟨a1,bh,bi,bn,bo,bj,bp,bk,br,bl,bs,bm⟩:av y i.heap.size f d:=pE;obtain⟨c3,c4,c5,da,db,c6,dc,c7,dd,c8,de,c9⟩:av y (i.heap.size+1) Z 0:=pF;go_wp2_with fail;refine(FQ k Z _).mono ?_;rintro z w3 ⟨rfl,h⟩;have ay:=aT.kept h;exact NZ):=h
def Kw (h:p:=by
 clear t;go_enter func199,rA;go_upto_region 1 with fail;go_quiet ((first|(go_at_call 39;first|exact bq (aq.out _ ae)|exact bq (aq.out _ (l (ae.out.drewN _)))|exact bq (aq.out _ (l ae.out.drew)))|(go_at_call 135;exact bq (aG.out _))));go_wp2_with(go_at_call 268;refine(P.out _).mono ?_;rintro B y ⟨rfl,rfl⟩);refine(aa.out _ (l (ae.out.drewN _))).mono ?_;rintro B i ⟨rfl,aR,b⟩;obtain⟨cm,co,cq,cs,cu,cw,cy,cI,cJ,cA,cK,cB,cL,cC,cM,cD⟩:a7 i g.heap.size s V X Y T U:=m9;obtain⟨cS,cU,cW,c6,c7,cY,c8,cZ,c9,c0,da,c1⟩:av i (g.heap.size+1) 0 0:=lQ;have aT:=l ((((aR.alloc (.cells #[j f,j d] 231)).alloc (.cells #[j K,j D] 231)).alloc (.cells #[j (-1),j 0] 118)).alloc (.cells #[j (-1),j 0] 118));go_wp2_with(first|(go_at_call 82;refine(cc _ _ _).mono ?_;rintro B dt ⟨rfl,rfl⟩));refine(ar.out _ aT).mono ?_;rintro B y ⟨rfl,a1,e⟩;obtain⟨cn,cp,cr,ct,cv,cx,cz,cN,cO,cE,cP,cF,cQ,cG,cR,cH⟩:a7 y g.heap.size s V X Y T U:=vt;obtain⟨cT,cV,cX,db,dc,c2,dd,c3,de,c4,df,c5⟩:av y (g.heap.size+1) 0 0:=pD;obtain⟨b7,b8,b9,cg,ci,ca,cj,cb,ck,ce,cl,cf⟩:av y i.heap.size f d:=pE;obtain⟨dg,dh,di,dn,dp,dj,dq,dk,dr,dl,ds,dm⟩:av y (i.heap.size+1) K D:=pF;go_wp2_with fail;refine(ad.out _ (l a1)).mono ?_;rintro B w3 ⟨rfl,ay,h⟩;exact NZ):=h
def sq (h:p:=by repeat(first|(with_reducible exact Kept.refl _ _)|(with_reducible refine Kept.Xb ?_ _ _)|(with_reducible refine Kept.setCell ?_ (ch aL) _)|(with_reducible refine Kept.drew ?_)|(with_reducible refine Kept.drewN ?_ _)|(with_reducible refine Kept.alloc ?_ _)|(with_reducible refine Kept.trans ?_ (h.mono F))|(with_reducible refine Kept.trans ?_ (e.mono F))|(with_reducible refine Kept.trans ?_ (b.mono F)))):=h
def Aw (h:p:=by
 rintro l y ⟨rfl,i,e⟩;exact aka):=h
def Kx (h:p:=by
 clear r;go_enter func276,ntmps276;go_upto_region 5 with fail;go_region_with(first|(go_at_call 255;refine(G.out _).mono ?_;rintro m p ⟨rfl,rfl⟩)|(go_at_call 197;refine(H.out _ (l K.out.drew)).mono ?_;rintro m p ⟨rfl,j,b⟩));all_goals
  go_wp2_with fail;refine(J.out _ (l j)).mono ?_;exact Aw):=h
def Ky (h:p:=by
 refine ab (v:=.agg #[j V,j p]) (by simp[results,results201,go_sem,X,Y,ae,ah,Z,ai,aa,aj,ac,al,ad,ei,fb]) rfl ⟨rfl,G.box (e.heap.size+1) ?_ m m,?_⟩
 . exact jJ
 . exact nk):=h
def Ax (h:p:=by
 obtain⟨a9,ba,bb,bh,bi,bd,bj,be,bk,bf,bl,bg⟩:av s (n.heap.size+1) 0 0:=ii;have i:=l ((L.alloc (.cells #[j (-1),j 0] 118)).alloc (.cells #[j (-1),j 0] 118));go_wp2_with(first|(go_at_call 82;refine(cc _ _ _).mono ?_;rintro p bn ⟨rfl,rfl⟩)|(go_at_call 261;refine(K.out _ i).mono ?_;rintro p bm ⟨rfl,rfl⟩));refine(q.out _ i).mono ?_;rintro p y ⟨rfl,B,e⟩;obtain⟨E,I,bc,S,W,J,af,M,ag,N,ak,O⟩:av y (n.heap.size+1) 0 0:=vu;obtain⟨an,az,aJ,a4,a5,aR,a6,aT,a7,aZ,a8,a2⟩:av y s.heap.size (-1) 0:=zH;go_wp2_with fail;refine ab (v:=.agg #[j (-1),j 0]) (by simp[results,results201,go_sem,E,I,S,W,J,af,M,ag,N,ak,O,ei,fb]) rfl ⟨rfl,B.box (n.heap.size+1) ?_ m m,?_⟩
 . exact jJ
 . exact pT):=h
def Ay (h:p:=by
 clear k g;exact Kz):=h
def nl (h:p:=by
 have q:=g.out.lt;have HR:=l (jR g.out);obtain⟨i,e⟩:=y (fq a);rw[<-e]at HR;have o:=l e;have h:i.toArray.size=23:=lM;clear e;exact Ay):=h
def Kz (h:p:=by
 go_enter func304,ntmps304;exact N0):=h
def iq (h:p:=by
 have q:=g.out.lt;have HR:=l (jR g.out);obtain⟨i,e⟩:=y (fq a);rw[<-e]at HR;have o:=l e;have h:i.toArray.size=23:=lM;clear e;clear k g;go_enter func305,ntmps305;exact N0):=h
def Az (h:p:=by
 clear i;go_enter func305,ntmps305;go_upto_region 1 with fail;refine gi ?_;refine wpList_plain rfl (fun g f=>?_);go_simp;refine f _ _ ?_;clear f g;refine wpList_plain rfl (fun g f=>?_);go_simp;refine f _ _ ?_;clear f g;refine wpList_plain rfl (fun g f=>?_);go_simp;refine f _ _ ?_;clear f g;refine rw rfl _ _ rfl q 38 (by rfl) k _ HR.out rB rfl uU ?_;refine wpList_plain rfl (fun g f=>?_);go_simp;refine f _ _ ?_;clear f g;refine gj rfl _ _ _ rfl b.heap.size 0 k.toArray rfl rfl uV uW uX ?_;obtain⟨y,l,w,v⟩:=sQ b (#[j 0,j 0,j 0,j 0,j 0,j 0,j 0,j 0,j 0,j 0,j 0,j 0,j 0,j 0,j 0,j 0,j 0,j 0,j 0,j 0,j 0,j 0,j 0]) 71 k.toArray h;rw[<-l];clear l;clear w;refine gl ?_;go_wp2_with fail;go_ret2;exact⟨by rw[p.out]<;>rfl,v⟩):=h
def KA (h:p:=by
 clear e;exact pS):=h
def KB (h:p:=by
 have y:((b:Int)==0)=false:=M;have z:((b:Int)==1)=false:=M;have B:((b:Int)==2)=false:=M;clear f g h;exact pS):=h
def pS (h:p:=by exact F8):=h
def KC (h:p:=by
 rw[B ⟨rfl,i⟩];have y:decide ((a:Int)<3072)=true:=M;exact N1):=h
def KD (h:p:=by
 have y:decide ((a:Int)<3072)=false:=M;exact N1):=h
def AA (h:p:=by
 go_ret2;exact⟨rfl,u⟩):=h
def KE (h:p:=by
 go_end0;exact⟨rfl,c.out.set 38 _ rfl rfl m,(Kept.refl _ _).setCell (.inl F) _⟩):=h
def sr (h:p:=by
 go_wp2_with fail;go_end0;exact⟨rfl,rfl⟩):=h
def AB (h:p:=by
 rintro j w ⟨rfl,rfl⟩;exact so):=h
def KF (h:p:=by
 skip;clear a d m w x k A C q v P;go_enter func203,ntmps203;go_wp2_with(go_at_call 39;refine(O.out _ p).mono ?_;rintro i G ⟨rfl,rfl⟩);refine(o.out _ p).mono ?_;rintro i z ⟨rfl,b⟩;have r:=l (p.out.kept b);obtain⟨I,V,X,Z,ac,ae,ag,aq,ar,ai,au,aj,av,ak,aw,al⟩:a7 z f.heap.size t u K L H J:=i1;go_wp2_with fail;refine(h.out _ r).mono ?_;rintro i E ⟨rfl,y,e⟩;obtain⟨N,W,Y,aa,ad,af,ah,ax,ay,am,az,an,aA,ao,aB,ap⟩:a7 E f.heap.size t u K L H J:=zI;go_wp2_with(go_at_call 134;refine(j.out _).mono ?_;rintro i G ⟨rfl,rfl⟩);refine ab (rr rfl _ _ _) rfl ?_;refine⟨rfl,y.alloc _,?_⟩;exact pT):=h
def KG (h:p:=by
 have z:(P==836)=false:=by simp[A]
 exact N2):=h
def KI (h:p:=by
 have m:(P==836)=true:=by simp[A]
 exact N2):=h
def KJ (h:p:=by
 go_wp2_with fail;go_ret;exact⟨rfl,(Kept.refl _ _).drewN _⟩):=h
def KK (h:p:=by
 go_ret;exact⟨rfl,Kept.refl _ _⟩):=h
def KL (h:p:=by
 go_wp2_with fail;exact KK):=h
def KM (h:p:=by
 go_enter func204,ntmps204;exact KL):=h
def KN (h:p:=by
 refine(x.out _ (l ((a.out.set (X':={e with mode:=s}) 34 _ rfl rfl m).set 38 _ rfl rfl m))).mono ?_;rintro r y ⟨rfl,j,b⟩;go_wp2_with fail;go_end0;refine⟨rfl,j,?_⟩;exact vT):=h
def AC (h:p:=by repeat(first|(with_reducible exact Kept.refl _ _)|(with_reducible refine Kept.Xb ?_ _ _)|(with_reducible refine Kept.setCell ?_ (ch aL) _)|(with_reducible refine Kept.drew ?_)|(with_reducible refine Kept.drewN ?_ _)|(with_reducible refine Kept.alloc ?_ _))):=h
def KO (h:p:=by exact⟨rfl,u,(Kept.trans (((Kept.refl _ _).alloc _).drewN _) (t.mono F))⟩):=h
def KP (h:p:=by
 go_enter func38,ntmps38;go_wp2_with fail;all_goals
  go_end0;refine⟨rfl,?_,?_⟩
  . first|exact f.out|exact f.out.drew|exact f.out.drew.drew
  . exact AC):=h
def KQ (h:p:=by
 go_enter func38,ntmps38;go_wp2_with(go_at_call 85;refine(i.out _).mono ?_;rintro y E ⟨rfl,b⟩;have f:=l (e.out.kept (Kept.trans Gt b));have d57:=f.out.Yb;have d58:=f.out.Yc;have d59:=f.out.XG;have d60:=f.out.XH;have j:=f.out.Wb);all_goals
  go_end0;refine⟨rfl,?_,?_⟩
  . first|exact((f.out.set (X':={a with c:={a.c with Wy:=g}}) 57 _ rfl rfl m).set (X':={a with c:={a.c with Wy:=g,WN:=v1}}) 58 _ rfl rfl m)|exact((f.out.set (X':={a with c:={a.c with Wy:=g}}) 57 _ rfl rfl m).set (X':={a with c:={a.c with Wy:=g,WN:=v1}}) 58 _ rfl rfl m).drew|exact((f.out.set (X':={a with c:={a.c with Wy:=g}}) 57 _ rfl rfl m).set (X':={a with c:={a.c with Wy:=g,WN:=v1}}) 58 _ rfl rfl m).drew.drew
  . exact vT):=h
def pT (h:p:=by repeat(first|(with_reducible exact Kept.refl _ _)|(with_reducible refine Kept.Xb ?_ _ _)|(with_reducible refine Kept.setCell ?_ (ch aL) _)|(with_reducible refine Kept.drew ?_)|(with_reducible refine Kept.drewN ?_ _)|(with_reducible refine Kept.alloc ?_ _)|(with_reducible refine Kept.trans ?_ (e.mono F))|(with_reducible refine Kept.trans ?_ (b.mono F)))):=h
def KS (h:p:=by
 clear b;go_enter func68,ntmps68;exact cm):=h
def vT (h:p:=by repeat(first|(with_reducible exact Kept.refl _ _)|(with_reducible refine Kept.Xb ?_ _ _)|(with_reducible refine Kept.setCell ?_ (ch aL) _)|(with_reducible refine Kept.drew ?_)|(with_reducible refine Kept.drewN ?_ _)|(with_reducible refine Kept.alloc ?_ _)|(with_reducible refine Kept.trans ?_ (b.mono F)))):=h
def pU (h:p:=by(go_wp2_with(first|(go_at_call 134;refine(t.out _).mono ?_;rintro m y ⟨rfl,rfl⟩)|(go_at_call 278;refine(P.out _ (l (by first|exact u.out|exact u.out.alloc _))).mono ?_;rintro m r ⟨rfl,i⟩));go_ret;refine⟨rfl,?_⟩;repeat(first|(with_reducible exact ae.out)|(with_reducible exact i)|(with_reducible refine Kept.trans ?_ i)|(with_reducible refine Kept.alloc ?_ _)|(with_reducible exact Kept.refl _ _)))):=h
def KT (h:p:=by
 cases t4
 . exact N3
 . cases t5
   . exact N3
   . exact pU):=h
def KU (h:p:=by
 have X:decide (a<=18)=true:=M;exact KV):=h
def KV (h:p:=by
 have au:decide (a<=60)=true:=M;exact akc):=h
def vU (h:p:=by repeat(first|(with_reducible exact c.out)|(with_reducible refine E.alloc ?_ _))):=h
def ss (h:p:=by repeat(first|(with_reducible exact Kept.refl _ _)|(with_reducible refine Kept.setCell ?_ (ch aL) _)|(with_reducible refine Kept.drew ?_)|(with_reducible refine Kept.drewN ?_ _)|(with_reducible refine Kept.alloc ?_ _))):=h
def KW (h:p:=by
 clear g h;exact akd):=h
def KY (h:p:=by
 have o:=c.out.lt;have n:Hid (E ((e.alloc (az i)).alloc (.cells #[j 0,j 0] 118)) a d b):=cB;have HR:=l (fun W=>gK i.op W);have f:=l (fun W=>fC i.op W);simp only[show bu i.op=false by unfold bu;simp;omega,show decide (5<=i.op/\i.op<=10)=false by simp;omega]at HR f;unfold az at n;unfold ag aR;obtain⟨r,s,t,u,p,q⟩:=i;dsimp only at *;subst k;exact KW):=h
def KZ (h:p:=by
 have G:(a==38)=false:=M;have H:(a==39)=false:=M;have I:(a==40)=false:=M;have J:(a==41)=false:=M;clear k m;go_enter mW,mX;go_wp2_with(first|(go_at_call 195;refine(HR.out _).mono ?_;rintro i l ⟨rfl,rfl⟩)|(go_at_call 192;refine(g.out _).mono ?_;rintro i l ⟨rfl,rfl⟩));refine ab (v:=.agg #[j 2,j b]) uZ rfl ⟨rfl,?_,?_⟩
 . exact vU
 . exact ss):=h
def K0 (h:p:=by
 go_enter mW,mX;exact ake):=h
def K1 (h:p:=by
 have a5:(a==38)=false:=M;have a6:(a==39)=false:=M;have a8:(a==40)=false:=M;have a9:(a==41)=false:=M;clear q z w c;exact K0):=h
def K2 (h:p:=by
 have ap:(a==38)=false:=M;have aq:(a==39)=false:=M;have ar:(a==40)=false:=M;have au:(a==41)=false:=M;clear p s c q;go_enter mW,mX;go_wp2_with(first|(go_at_call 195;refine(HR.out _).mono ?_;rintro i L ⟨rfl,rfl⟩)|(go_at_call 192;refine(o.out _).mono ?_;rintro i L ⟨rfl,rfl⟩));refine(g.out _ n).mono ?_;rintro i l ⟨rfl,b⟩;have z:=n.out.kept b;obtain⟨W,Z,aa,ac,ad,ae,af,ak,al,ag,am,ah,an,ai,ao,aj⟩:a7 l d.heap.size a v w x t u:=jF;obtain⟨r,A,aw,G,H,B,I,C,J,D,K,E⟩:av l (d.heap.size+1) 0 0:=ii;go_wp2_with fail;refine ab (v:=.agg #[j 2,j h]) GO rfl ⟨rfl,z.box (d.heap.size+1) ?_ m m,?_⟩
 . exact jJ
 . exact nk):=h
def K3 (h:p:=by
 clear b;go_enter func25,ntmps25;exact il):=h
def su (h:p:=by
 go_ret2;exact⟨rfl,rfl⟩):=h
def K4 (h:p:=by
 go_enter func144,ntmps144;go_wp2_with(go_at_call 217;refine h.out.mono ?_;rintro l n ⟨rfl,j⟩);go_ret2;exact⟨rfl,j⟩):=h
def K5 (h:p:=by
 simp only;split
 . next d=>rw[z (by omega)];rw[d]at c;omega
 . next d=>
   split
   . next e=>rw[e]at c;omega
   . omega):=h
def K6 (h:p:=by
 have e:=C.tH (C.ah a.data.toList a.size) W;unfold c7;rw[C.qh];split<;>omega):=h
def vV (h:p:=by
 go_enter func111,ntmps111;exact il):=h
def K8 (h:p:=by repeat(first|(with_reducible exact z)|(with_reducible refine E.alloc ?_ _)|(with_reducible refine E.drew ?_)|(with_reducible refine E.Yq ?_)|(with_reducible refine E.other _ _ _ ?_ m m))):=h
def AD (h:p:=by repeat(first|(with_reducible exact Kept.refl _ _)|(with_reducible refine Kept.Xb ?_ _ _)|(with_reducible refine Kept.setCell ?_ (ch aL) _)|(with_reducible refine Kept.drew ?_)|(with_reducible refine Kept.drewN ?_ _)|(with_reducible refine Kept.alloc ?_ _)|(with_reducible refine Kept.trans ?_ (G.mono F))|(with_reducible refine Kept.trans ?_ (h.mono F))|(with_reducible refine Kept.trans ?_ (e.mono F))|(with_reducible refine Kept.trans ?_ (b.mono F)))):=h
def K9 (h:p:=by
 go_wp2_with fail;refine(a5.out _ _ _ aI).mono ?_;rintro aT a9 ⟨rfl,ai,R⟩;have aq:=aa.more R ad;have ar:=aH.more R ad;have ag:=aG.trans (R.mono F);have r:=ai;have y:=aq;have l:=ar;have z:=ag;exact N4):=h
def La (h:p:=by
 rw[z ac]at a;simp only[bK]at a;obtain⟨⟨rfl,rfl,rfl⟩,rfl⟩:=a;have R:((au:Int) !=0)=true:=M;go_wp2_with(go_at_call 366;refine(bP.out _).mono ?_;rintro r y ⟨rfl,l⟩;rw[l];clear l y);refine(bu.out _ _ _).mono ?_;rintro r W ⟨rfl,j⟩;have i:=af.kept (Below.kept j []);have g:=E.out.kept (Below.kept j []);have s:=ae.trans ((Below.kept j []).mono F);exact N5):=h
def Lb (h:p:=by
 rw[z ah]at a;simp only[bK]at a;obtain⟨⟨rfl,rfl,rfl⟩,rfl⟩:=a;have r:((o:Int) !=0)=true:=M;go_wp2_with fail;refine(bu.out _ _ _).mono ?_;rintro l y ⟨rfl,j⟩;have i:=aw.kept (Below.kept j []);have g:=ax.out.kept (Below.kept j []);have s:=av.trans ((Below.kept j []).mono F);exact N5):=h
def Lc (h:p:=by
 have R:=aJ.c5;have ag:=aJ.Wb;have r:=aJ.YA 0;have y:=aq.more (F:=[c]) ((Kept.refl [c] a6).Xb 5 (j ((0:Nat):Int))) ad;have l:=ar.more (F:=[c]) ((Kept.refl [c] a6).Xb 5 (j ((0:Nat):Int))) ad;have z:=bv.Xb 5 (j ((0:Nat):Int));rw[show((0:Nat):Int)=0 from rfl]at r y l z;exact N4):=h
def Ld (h:p:=by repeat(first|(with_reducible exact ac)|(with_reducible refine V.alloc ?_ _)|(with_reducible refine V.drew ?_)|(with_reducible refine V.other _ _ _ ?_ m m m m m))):=h
def Le (h:p:=by exact ae.setCell (ch aL) _ |>.setCell (ch aL) _ |>.setCell (ch aL) _):=h
def Lf (h:p:=by
 obtain⟨c,p,r,s,rfl,rfl,j⟩:=hrel;cases p with
 |zero=>
  go_wp2;go_ret;refine⟨⟨c%2,by go_num,by omega,?_⟩,rfl⟩;show c%2=_;have:=j.out;rw[ln,oy]at this;rw[this]
 |succ i=>
  go_wp2;go_round;case rel=>exact⟨c/2,i,by omega,by omega,by go_num,by go_num,(by rw[gO,<-uF];exact j.out:c/2/2^i=W/2^a)⟩
  case measure=>simp[intOf]<;>omega):=h
def Lh (h:p:=by exact⟨W,a,aB _,k,rfl,rfl,rfl⟩):=h
def Li (h:p:=by
 go_wp2;exact zP):=h
def AE (h:p:=by
 go_wp2;go_round;case rel=>exact⟨i,c/2,by omega,by omega,by go_num,by go_num,k⟩
 case measure=>simp[intOf]):=h
def Lj (h:p:=by
 go_wp2;go_ret;exact⟨by rw[k.out];rfl,rfl⟩):=h
def AF (h:p:=by
 clear c1;exact N6):=h
def Lk (h:p:=by
 have r:((a[i].toNat:Int)==66)=true:=by rw[ba];exact c2
 clear c2 c1;exact N6):=h
def Ll (h:p:=by
 have r:=EL (c:=a[i]) g f e;clear c1 c2;exact AI):=h
def AG (h:p:=by
 obtain rfl:i=a.size:=by omega
 rw[ul,ln,oy]at e;go_wp2;go_ret2;exact⟨⟨c,b,rfl,o,p,e⟩,rfl⟩):=h
def AH (h:p:=by exact⟨0,0,0,by omega,rfl,rfl,rfl,⟨rfl,rfl⟩⟩):=h
def AI (h:p:=by
 go_wp2;exact akf):=h
def AJ (h:p:=by
 rintro q s ⟨⟨r,b,rfl,o,p,d⟩,rfl⟩;have HR:=cE (Uw (g:=g) d);clear d;by_cases e:b=0
 . subst e;exact N7
 . have m:((b:Int)==0)=false:=gU;by_cases f:b=3
   . subst f;exact N7
   . have n:((b:Int)==3)=false:=gU;go_wp2;go_ret;exact⟨congrArg (fun l=>Ending.returned (j l)) (by rw[HR.out,z e,z f]),rfl⟩):=h
def AK (h:p:=by
 go_wp2;go_round;case rel=>exact⟨i+1,d,by omega,by go_num,by go_num,by simpa using c⟩
 case measure=>exact a4):=h
def Ln (h:p:=by
 go_wp2;go_round;case rel=>exact⟨i+1,d+(p:Int),by omega,by go_num,by go_num,c⟩
 case measure=>exact a4):=h
def jK (h:p:=by
 rcases b with rfl|rfl|rfl|rfl|rfl|rfl|rfl;all_goals
  go_enter func156,ntmps156;go_wp2;exact ab (v:=dw (aW.word _)) (by simp[results,results156,go_sem,dw,aW.word]) rfl ⟨rfl,by repeat(first|exact aq _ _|refine bd ?_ F _|refine bk ?_ F _)⟩):=h
def AL (h:p:=by
 rcases b with rfl|rfl|rfl|rfl|rfl|rfl|rfl;all_goals
  exact Lo):=h
def Lo (h:p:=by
 go_enter func158,ntmps158;exact akg):=h
def Lp (h:p:=by
 go_wp2;exact akh):=h
def sv (h:p:=by
 have x:=BM w (c.trans n) f;clear c f;exact Lp):=h
def sw (h:p:=by
 have i:=cE (PS w (c.trans n) f);clear c f;go_wp2;go_ret;exact⟨by rw[i.out];rfl,((aq _ _).alloc (aB _) _).alloc F _⟩):=h
def AM (h:p:=by
 go_enter func117,ntmps117;go_wp2;exact ab (v:=.tuple #[.agg #[j 0,j 0,j 0,j 0,j 0,j 0],j 2]) (by simp[results,results117,go_sem]) rfl ⟨rfl,(aq _ _).alloc (aB _) _⟩):=h
def Lr (h:p:=by
 have m:=cE o;simp only[if_true];rw[<-o];clear o;simp only[aV];go_wp2;refine ab (v:=.tuple #[.agg #[j i.op,j i.rd,j i.V1,j i.V6,j i.V2,j i.V4],j 0]) (by simp[results,results117,go_sem,e,f,g,h,k,l,p]) rfl ⟨⟨i,rfl,?_⟩,?_⟩
 . show i=_;rw[d.out,m.out];rfl
 . exact J7):=h
def Ls (h:p:=by
 go_ret;exact⟨rfl,E⟩):=h
def AO (h:p:=by
 simp only[if_true,cP,eh,<-h.out.1];clear h;go_enter func320,ntmps320;go_wp2_with fail;refine(t.out _).mono ?_;rintro j l ⟨rfl,rfl⟩;go_wp2_with fail;refine(M.out _).mono ?_;rintro j m ⟨rfl,rfl⟩;go_wp2_with fail;go_ret;refine⟨rfl,Y.out,?_⟩;exact pJ):=h
def AP (h:p:=by
 simp only[if_true,cP,eh,<-h.out.2];clear h;go_enter func320,ntmps320;go_wp2_with fail;refine(u.out _).mono ?_;rintro j l ⟨rfl,rfl⟩;go_wp2_with fail;refine(M.out _).mono ?_;rintro j m ⟨rfl,rfl⟩;go_wp2_with fail;go_ret;refine⟨rfl,N.out,?_⟩;exact pJ):=h
def Lt (h:p:=by
 cases r
 . have q:(decide (a.held%2=0)&&!a.W6)=false:=ic;have f1:=sW q;have s:(false&&decide (a.held/4%2=0)&&!a.W7)=false:=ie;have f2:cY a false=a:=by
    unfold cY;rw[f1];exact nL (C:=a) s
   exact N8
 . cases H
   . exact N9
   . cases wi
     . by_cases p:a.ret+1=4294967296
       . have q:(decide (a.held%2=0)&&!a.W6)=false:=ic;have f1:=sW q;have s:(true&&decide (a.held/4%2=0)&&!a.W7)=true:=ie;have f2:cY a true={a with ret:=0,We:=(a.We+1)%4294967296}:=by
          unfold cY;rw[f1];exact wS (C:=a) s p
         rw[f2];have b:=l (((d.out.set (C':={a with ret:=0}) 34 (j 0) rfl m).set (C':={a with ret:=0,We:=(a.We+1)%4294967296}) 35 (j (((a.We+1)%4294967296:Nat):Int)) rfl m));have c:=l ((((d.out.set (C':={a with ret:=a.ret+1}) 34 (j ((a.ret+1:Nat):Int)) rfl m).set (C':={a with ret:=0}) 34 (j 0) rfl m).set (C':={a with ret:=0,We:=(a.We+1)%4294967296}) 35 (j (((a.We+1)%4294967296:Nat):Int)) rfl m));have v:((a.Wa+1:Nat):Int)=(a.Wa:Int)+1:=J;have w:((a.ret+1:Nat):Int)=(a.ret:Int)+1:=J;have x:(((a.Wg+1)%4294967296:Nat):Int)=((a.Wg:Int)+1)%4294967296:=J;have y:(((a.We+1)%4294967296:Nat):Int)=((a.We:Int)+1)%4294967296:=J;try rw[x]at b
         try rw[x]at c
         try rw[y]at b
         try rw[y]at c
         try rw[v]at b
         try rw[v]at c
         try rw[w]at b
         try rw[w]at c
         have O:((a.ret:Int)+1==4294967296)=true:=jC;exact Oa
       . have q:(decide (a.held%2=0)&&!a.W6)=false:=ic;have f1:=sW q;have s:(true&&decide (a.held/4%2=0)&&!a.W7)=true:=ie;have f2:cY a true={a with ret:=a.ret+1}:=by
          unfold cY;rw[f1];exact wR (C:=a) s p
         rw[f2];have b:=l ((d.out.set (C':={a with ret:=a.ret+1}) 34 (j ((a.ret+1:Nat):Int)) rfl m));have c:=l ((d.out.set (C':={a with ret:=a.ret+1}) 34 (j ((a.ret+1:Nat):Int)) rfl m));have v:((a.Wa+1:Nat):Int)=(a.Wa:Int)+1:=J;have w:((a.ret+1:Nat):Int)=(a.ret:Int)+1:=J;have x:(((a.Wg+1)%4294967296:Nat):Int)=((a.Wg:Int)+1)%4294967296:=J;have y:(((a.We+1)%4294967296:Nat):Int)=((a.We:Int)+1)%4294967296:=J;try rw[x]at b
         try rw[x]at c
         try rw[y]at b
         try rw[y]at c
         try rw[v]at b
         try rw[v]at c
         try rw[w]at b
         try rw[w]at c
         have O:((a.ret:Int)+1==4294967296)=false:=gU;exact Oa
     . exact N9):=h
def Lu (h:p:=by
 rw[f2];exact aki):=h
def Lv (h:p:=by
 have e:(decide (a.held%2=0)&&!a.W6)=true:=ic;have f1:=sX e o;have f:(true&&decide (a.held/4%2=0)&&!a.W7)=false:=ie;have f2:cY a true={a with Wa:=0,Wg:=(a.Wg+1)%4294967296}:=by
  unfold cY;rw[f1];exact nL (C:={a with Wa:=0,Wg:=(a.Wg+1)%4294967296}) f
 exact Lu):=h
def Lw (h:p:=by
 have j:((a.ret:Int)+1==4294967296)=true:=jC;exact Ob):=h
def Lx (h:p:=by
 have j:((a.ret:Int)+1==4294967296)=false:=gU;exact Ob):=h
def Ly (h:p:=by
 rw[f2];exact akj):=h
def Lz (h:p:=by
 have e:(decide (a.held%2=0)&&!a.W6)=true:=ic;have f1:=sV e o;have f:(true&&decide (a.held/4%2=0)&&!a.W7)=false:=ie;have f2:cY a true={a with Wa:=a.Wa+1}:=by
  unfold cY;rw[f1];exact nL (C:={a with Wa:=a.Wa+1}) f
 exact Ly):=h
def LA (h:p:=by
 rcases aT with ah|⟨J,ah,aS⟩
 . rw[ah]at Z;rw[B ah]at e;rcases aQ with rfl|⟨u,rfl,aR⟩
   . rw[B rfl]at e;have E:((d0,d1),ar)=(((0:Int),(0:Int)),{k with V3:=i}):=e;simp only[bK]at E;obtain⟨⟨rfl,rfl⟩,rfl⟩:=E;clear e;go_wp2_with fail;refine(Z.out _ M.out).mono ?_;rintro R w3 ⟨rfl,s⟩;have q:=l (M.out.kept (Below.kept s []));have I:=ak.kept (Below.kept s []);have Q:=aj.trans ((Below.kept s []).mono F);have aG:=q.out.c1;have aH:=q.out.c3;go_wp2_with fail;refine(af.out _ q).mono ?_;rintro R ai ⟨rfl,y,D⟩;have S:=l (y.alloc (.cells #[j i,j (-1),j n] 248));have aK:=(I.more D ad).alloc (.cells #[j i,j (-1),j n] 248);have aI:=(Q.trans D).alloc (.cells #[j i,j (-1),j n] 248);have aa:=bf.new ai [j i,j (-1),j n] 248;have aO:=y.c3;have aP:=y.Wb;have aU:=y.lt;have g:=(y.Yq i).alloc (.cells #[j i,j (-1),j n] 248);have L:=((I.more D ad).more (F:=[b]) ((Kept.refl [b] ai).Xb 3 (j (i:Int))) ad).alloc (.cells #[j i,j (-1),j n] 248);have ac:=((Q.trans D).Xb 3 (j (i:Int))).alloc (.cells #[j i,j (-1),j n] 248);exact LB
   . rw[z (by omega)]at e;have E:((d0,d1),ar)=(((1:Int),(u:Int)),{k with f:=hW k.f u false k.V3 n,V3:=hX k.f u false}):=e;simp only[bK]at E;obtain⟨⟨rfl,rfl⟩,rfl⟩:=E;clear e;have aV:((u:Int) !=-1)=true:=vp;replace au:=l (au.out u aR);generalize hX k.f u false=o at *;generalize hW k.f u false k.V3 n=ae at *;go_wp2_with fail;refine(Z.out _ M.out).mono ?_;rintro R w3 ⟨rfl,s⟩;have q:=l (M.out.kept (Below.kept s []));have I:=ak.kept (Below.kept s []);have Q:=aj.trans ((Below.kept s []).mono F);have aG:=q.out.c1;have aH:=q.out.c3;go_wp2_with fail;refine(af.out _ q).mono ?_;rintro R ai ⟨rfl,y,D⟩;have S:=l (y.alloc (.cells #[j i,j u,j n] 248));have aK:=(I.more D ad).alloc (.cells #[j i,j u,j n] 248);have aI:=(Q.trans D).alloc (.cells #[j i,j u,j n] 248);have aa:=bf.new ai [j i,j u,j n] 248;have aO:=y.c3;have aP:=y.Wb;have aU:=y.lt;have a7:=S.out.drew.c3;have a9:=aa.cell 1 _ rfl;have ba:=aa.cell 2 _ rfl;have a6:=S.out.c1;clear ag;go_upto_region 12 with fail;go_region_with(first|(go_at_call 320;refine(au.out _ S.out.drew).mono ?_;rintro R N ⟨rfl,W,t⟩;have p:=l (S.out.drew.XE t W);have ay:=aa.drew.more t ve;have aJ:=ay.more (F:=[b]) ((Kept.refl [b] N).Xb 3 (j (o:Int))) ve;have g:V (N.setCell ⟨b,3,none⟩ (j (o:Int))) b c d h f {k with f:=ae,V3:=o}:=p.out.Yq o;have av:=p.out.c3;have aw:=p.out.Wb;have ax:=p.out.lt));all_goals
      have p:=l (S.out.drew.XE t W);have ay:=aa.drew.more t ve;have aJ:=ay.more (F:=[b]) ((Kept.refl [b] N).Xb 3 (j (o:Int))) ve;have g:V (N.setCell ⟨b,3,none⟩ (j (o:Int))) b c d h f {k with f:=ae,V3:=o}:=p.out.Yq o;obtain⟨-,-,-,av,-,-,aw,ax,-,-,-,-,-,-,-⟩:=p.out;have a8:=aJ.cell 1 _ rfl;have L:=(aK.drew.more t ad).more (F:=[b]) ((Kept.refl [b] N).Xb 3 (j (o:Int))) ad;have ac:=(aI.drew.trans (t.mono F)).Xb 3 (j (o:Int));exact Ol
 . rw[ah]at Z e;rw[z (by omega)]at e;have E:((d0,d1),ar)=(((2:Int),(J:Int)),{a with wait:=false,f:=hW a.f J true a.V3 0,V3:=hX a.f J true}):=e;simp only[bK]at E;obtain⟨⟨rfl,rfl⟩,rfl⟩:=E;clear e;have aV:((J:Int) !=-1)=true:=vp;replace ag:=l (ag.out J aS);generalize hX a.f J true=o at *;generalize hW a.f J true a.V3 0=ae at *;go_wp2_with fail;refine(Z.out _ M.out).mono ?_;rintro R w3 ⟨rfl,s⟩;have q:=l (M.out.kept (Below.kept s []));have I:=ak.kept (Below.kept s []);have Q:=aj.trans ((Below.kept s []).mono F);have aG:=q.out.c1;have aH:=q.out.c3;go_upto_region 8 with fail;go_region_with(first|(go_at_call 320;refine(ag.out _ q.out.drew).mono ?_;rintro R N ⟨rfl,W,t⟩;have p:=l (q.out.drew.XE t W);have av:=p.out.c3;have aw:=p.out.Wb;have ax:=p.out.lt));all_goals
    have p:=l (q.out.drew.XE t W);obtain⟨-,-,-,av,-,-,aw,ax,-,-,-,-,-,-,-⟩:=p.out;have g:V _ b c d h f {a with wait:=false,f:=ae,V3:=o}:=p.out.Yq o;have L:=(I.drew.more t ad).more (F:=[b]) ((Kept.refl [b] N).Xb 3 (j (o:Int))) ad;have ac:=(Q.drew.trans (t.mono F)).Xb 3 (j (o:Int));exact Ol):=h
def LB (h:p:=by
 have j:=L.cell 0 _ rfl;exact Ga):=h
def LC (h:p:=by
 have O:(s==0)=true:=kq;clear k b;go_wp2_with fail;refine ST.out.mono ?_;rintro M V ⟨rfl,I,B⟩;clear ST;have z:=l (I.alloc (.cells #[j s,j p] 45));have y:=l ((f.out.trans B).alloc (.cells #[j s,j p] 45));go_wp2_with fail;go_roundw;case rel=>
  first
   |exact⟨r+1,i+1,o,by omega,by omega,by go_num,by go_num,q,z,y,x⟩
   | ((repeat apply hB);exact⟨⟨r+1,i+1,o,by omega,by omega,by go_num,by go_num,q,z,y,x⟩,rfl⟩)
 case measure=>exact a4):=h
def LD (h:p:=by
 have O:(s==0)=false:=kq;clear k b;go_wp2_with fail;refine ST.out.mono ?_;rintro M V ⟨rfl,I,B⟩;clear ST;have z:=l (I.alloc (.cells #[j s,j p] 45));have y:=l ((f.out.trans B).alloc (.cells #[j s,j p] 45));go_wp2_with fail;go_roundw;case rel=>
  first
   |exact⟨r,i+1,o,by omega,by omega,rfl,by go_num,q,z,y,x⟩
   | ((repeat apply hB);exact⟨⟨r,i+1,o,by omega,by omega,rfl,by go_num,q,z,y,x⟩,rfl⟩)
 case measure=>exact a4):=h
def LF (h:p:=by
 have O:Hid (d=(r,c)):=by show d=_;rw[e.out,show a-i=0 by omega];rfl
 exact Ji):=h
def LG (h:p:=by exact⟨0,0,g,by omega,by omega,rfl,rfl,F,H,l (Kept.refl _ _),G⟩):=h
def LH (h:p:=by
 subst aK;clear Y Z aJ;have H:=l (fun W=>Qu (k:Int) W);unfold w7 at a;by_cases o:(aP (k:Int)).1.op=0
 . rw[B o]at a;simp only[bK]at a;obtain⟨⟨rfl,rfl,rfl⟩,rfl⟩:=a;obtain⟨⟨⟨I,G,A,C,D,E⟩,bf⟩,aM⟩:∃a2,a2=aP (k:Int):=⟨_,rfl⟩;simp only[<-aM]at H o;try dsimp only at o
   subst o;unfold aV at H;try dsimp only at H
   clear aM;go_wp2_with fail;refine(H.out _).mono ?_;rintro O a4 ⟨rfl,y⟩;have ai:=(ao.kept (Below.kept y [])).alloc (.cells #[j 0,j G,j A,j C,j D,j E] 60);have am:=l ((ap.out.kept (Below.kept y [])).alloc (.cells #[j 0,j G,j A,j C,j D,j E] 60));have M:=(an.trans ((Below.kept y []).mono F)).alloc (.cells #[j 0,j G,j A,j C,j D,j E] 60);go_wp2_with fail;refine(X.out _ _ _).mono ?_;rintro O a5 ⟨rfl,J⟩;have x:=ai.kept (Below.kept J []);have g:=am.out.kept (Below.kept J []);have s:=M.trans ((Below.kept J []).mono F);exact vW
 . rw[z o]at a;have aI:=l (fun W a3=>adz d e f n i {b with b:=aH} (okB HR.out aO) k o W a3);rw[show aV (aP (k:Int)).1=ag (eY (aP (k:Int)).1)from(nF _ (wG _ o).2).2]at H;replace o:¬(eY (aP (k:Int)).1).op=0:=o;generalize (aP (k:Int)).2=bk at *;generalize eY (aP (k:Int)).1=a1 at *;rw[<-a]at aI;obtain⟨I,G,A,C,D,E⟩:=a1;unfold ag cx gB at *;dsimp only at *;have bl:(I==0)=false:=by simp[o]
   clear a;go_wp2_with fail;refine(H.out _).mono ?_;rintro O a4 ⟨rfl,y⟩;have ai:=(ao.kept (Below.kept y [])).alloc (.cells #[j I,j G,j A,j C,j D,j E] 60);have am:=l ((ap.out.kept (Below.kept y [])).alloc (.cells #[j I,j G,j A,j C,j D,j E] 60));have M:=(an.trans ((Below.kept y []).mono F)).alloc (.cells #[j I,j G,j A,j C,j D,j E] 60);go_wp2_with fail;refine(aI.out _ am).mono ?_;rintro O a5 ⟨rfl,g,aN⟩;have x:=ai.more aN ad;have s:=M.trans aN;exact vW):=h
def vW (h:p:=by
 have j:=x.cell 0 _ rfl;exact akk):=h
def ajD (h:p:=by
 unfold c7;rw[C.qh];split<;>omega):=h
def AQ (h:p:=by exact gb _ R):=h
def LJ (h:p:=by exact⟨b.V7 c,d.XF,by dsimp only;omega,by dsimp only;omega⟩):=h
def AR (h:p:=by rcases gg (b/2^a)with d|d<;>simp[d]):=h
def AS (h:p:=by cases c.testBit a<;>cases b.testBit a<;>rfl):=h
def LK (h:p:=by
 show((_,_,_),_)=_;rw[B rfl];refine congrArg (fun i=>((i,-1,0),_)) ?_;exact AU):=h
def LL (h:p:=by
 repeat' split
 all_goals first|rfl|(exfalso;omega)):=h
def LM (h:p:=by
 repeat' split
 all_goals (symm;simp only[cA,mV];omega)):=h
def LN (h:p:=by
 rw[z (by simp;omega)];exact LO):=h
def LO (h:p:=by
 repeat' split
 all_goals first|(symm;simp only[cA,mV]at *;omega)|(rw[yV];simp only[cA]at *;omega)):=h
def LP (h:p:=by
 simp only[Q.mk.injEq,BP,jZ];simp):=h
def LQ (h:p:=by
 revert this;cases c.testBit a<;>cases d.testBit a<;>cases e.testBit a<;>cases b.testBit a<;>simp):=h
def AU (h:p:=by exact congrArg Int.ofNat (p7 b.V3 a)):=h
def LR (h:p:=by rcases q with d|d|d<;>by_cases p:g=0<;>cases r<;>cases s<;>simp[d,h,p]):=h
def LS (h:p:=by
 unfold j0 mm hq ax S h2;rw[f];simp only[Q.mk.injEq,p8,qa,p9,g,d];rw[jZ (aI _ _ |||_)];simp only[p8,qa,p9];simp):=h
def LU (h:p:=by
 refine congrArg (fun i=>((i,(-1:Int),(0:Int)),_)) ?_;exact AU):=h
def LV (h:p:=by
 unfold dV a5 hq;by_cases d0:a.rd=0
 . rw[B d0,B d0];rfl
 . rw[z d0,z d0];rfl):=h
def LW (h:p:=by repeat(first|(with_reducible exact C)|(with_reducible refine E.alloc ?_ _)|(with_reducible refine E.drew ?_)|(with_reducible refine E.other _ _ _ ?_ m m))):=h
def vX (h:p:=by repeat(first|(with_reducible exact u)|(with_reducible refine E.alloc ?_ _)|(with_reducible refine E.drew ?_)|(with_reducible refine E.other _ _ _ ?_ m m))):=h
def LX (h:p:=by repeat(first|(with_reducible exact Kept.refl _ _)|(with_reducible refine Kept.Xb ?_ _ _)|(with_reducible refine Kept.setCell ?_ (ch aL) _)|(with_reducible refine Kept.drew ?_)|(with_reducible refine Kept.drewN ?_ _)|(with_reducible refine Kept.alloc ?_ _)|(with_reducible refine Kept.trans ?_ (h.mono F))|(with_reducible refine Kept.trans ?_ (e.mono F))|(with_reducible refine Kept.trans ?_ (b.mono F))|(with_reducible refine Kept.trans ?_ (i.mono F)))):=h
def vY (h:p:=by
 have m:dt b a=am (g2 (aD b g f i) a):=by rw[n2 b a (by omega) (by omega) (by omega)];exact(p7 b.V3 a).symm
 rw[B rfl,qJ,m,l];rfl):=h
def LZ (h:p:=by
 rw[B rfl,qJ,s,l];rfl):=h
def L0 (h:p:=by
 generalize (r&& (decide (b/4%2=0)&&!decide (a=4)))=l;cases l
 . rfl
 . simp only[if_true];rw[show(ax c b (decide (a=1)) (decide (a=4))).ret=c.c.ret from rfl,show(ax c b (decide (a=1)) (decide (a=4))).We=c.c.We from rfl,i.1,i.2];rfl):=h
def L1 (h:p:=by
 clear b;go_enter func172,ntmps172;exact il):=h
def L2 (h:p:=by
 go_enter func179,ntmps179;exact Ju):=h
def L3 (h:p:=by
 clear b;go_enter func62,ntmps62;exact il):=h
def L5 (h:p:=by
 clear b;go_enter func238,ntmps238;exact il):=h
def ajE (h:p:=by
 rintro e f ⟨rfl,rfl⟩;exact il):=h
def L6 (h:p:=by
 go_wp2_with fail;go_roundw;case rel=>exact⟨i+1,r,by omega,aj,by go_num,o,L,p⟩
 case measure=>exact a4):=h
def L7 (h:p:=by
 clear b;go_enter func22,ntmps22;exact il):=h
def L8 (h:p:=by
 intro y l;simp[dr]at l;obtain⟨m,_,rfl⟩:=l;rfl):=h
def L9 (h:p:=by
 go_enter func23,ntmps23;exact cm):=h
def Ma (h:p:=by
 clear k b;exact L9):=h
def ajF (h:p:=by
 obtain⟨j,_,rfl⟩:=o;rfl):=h
def Mb (h:p:=by simp only[fl,bs,on]):=h
def ek (h:p:=by
 go_enter func323,ntmps323;exact Ns):=h
def Mc (h:p:=by
 subst v;by_cases x:a.res=0
 . have ar:((a.res:Int) !=0)=false:=py;have av:((a.res:Int)==0)=true:=py;have aw:(!((a.res:Int)==0))=false:=py;have ah:∃c:Nat,c=a.res:=⟨_,rfl⟩;obtain⟨ah,m⟩:=ah;have y:=R.out;rw[B x]at y;exact Oc
 . have ar:((a.res:Int) !=0)=true:=py;have av:((a.res:Int)==0)=false:=py;have aw:(!((a.res:Int)==0))=true:=py;have ah:∃c:Nat,c=a.res:=⟨_,rfl⟩;obtain⟨ah,m⟩:=ah;have y:=R.out;rw[z x]at y;exact Oc):=h
def Md (h:p:=by intro D p;simp[aN.WV]at p|-;rcases p with a|a<;>simp[a]):=h
def Me (h:p:=by exact this.mono (fun y x ⟨j,l,v⟩=>⟨j,l,v.mono F⟩)):=h
def Mf (h:p:=by
 rw[show((a.toNat:Nat):Int)=a by omega]at this;exact this):=h
def Mg (h:p:=by
 rw[show((a.toNat:Nat):Int)=a by omega]at this;exact Me):=h
def sx (h:p:=by
 have p:=l f;have B:=l e;clear f e m c a;go_enter func124,rJ;go_wp2_with fail;refine(d.out _ p.out.x).mono ?_;rintro F I ⟨rfl,z,j⟩;have z:=l z;have D:=p.out.aD j;have A:=n.more j r;have G:=A.cell 2 _ rfl;have H:=A.cell 4 _ rfl;have E:=l j;have u:=l D;clear j D n A d;go_wp2_with fail;refine(b.out _ u.out).mono ?_;rintro F K ⟨rfl,w,v⟩;have x:=l (p.out.two E.out z.out (Kept.refl _ _) v w q.out);exact Mi):=h
def Mi (h:p:=by
 clear w v b u G H;exact akl):=h
def Mj (h:p:=by
 go_wp2_with fail;go_ret;exact⟨rfl,p,k.out,i6.refl _ _,xa g.out⟩):=h
def AV (h:p:=by
 have p:=l g;have x:=l f;clear g f m i d;go_enter func125,ntmps125;go_wp2_with fail;refine(c.out _ p.out.x).mono ?_;rintro z C ⟨rfl,j⟩;have n:=l (p.out.W3 j);have v:=s.kept j;have F:=v.cell 2 _ rfl;have G:=v.cell 3 _ rfl;have w:=l (x.out.trans j);clear j s v c p x;go_wp2_with fail;refine(a.out _ n.out.r).mono ?_;rintro z E ⟨rfl,t⟩;exact Mk):=h
def Mk (h:p:=by
 have I:=l (n.out.W3 t);exact akm):=h
def Ml (h:p:=by
 go_wp2_with fail;go_ret;exact⟨rfl,b.out,r.out⟩):=h
def Mm (h:p:=by
 have:=iA w h (fun i g a=>by simp only[Value.ownBlock,b5]at g;simp at a;omega);simpa[iC]using this):=h
def Mn (h:p:=by
 have j:Hid (c<b):=l (by rw[d]at e;omega);rw[<-e]at w3;clear g d i h;go_enter func122,ntmps122;go_wp2_with fail;go_ret;exact⟨⟨c,j.out,by first|rfl|simp[e]⟩,rfl⟩):=h
def Mo (h:p:=by
 unfold Oper.wp execOp;simp only[A,resolve,invoke,builtin,Sem.run_bind,Sem.run_pure,Result.andThen_ok,List.map_toArray,up,List.map_nil,C,E,B];exact t _ _ (z g b a u v w x y)):=h
def Mp (h:p:=by
 clear aj L H K;exact akn):=h
def Mq (h:p:=by
 rw[List.map_append,List.map_append,<-ai.out.1,<-ai.out.2];exact aj):=h
def Mr (h:p:=by
 go_meet;case rel=>exact⟨by rw[U.out],rfl⟩):=h
def Ms (h:p:=by
 go_wp2;exact Iz):=h
def Mt (h:p:=by
 go_enter func309,ntmps309;exact nc):=h
def vZ (h:p:=by
 go_ret2;exact⟨by rw[e.out];rfl,rfl⟩):=h
def Mu (h:p:=by
 clear b c;exact ako):=h
def Mv (h:p:=by exact⟨rfl,(aq _ _).alloc (aB _) _⟩):=h
def ajG (h:p:=by
 go_ret;exact Od):=h
def Mw (h:p:=by
 have p:Hid (o=(0,0)):=b;exact Mu):=h
def Mx (h:p:=by
 rw[bc c1]at w;have e:=l d;clear d b c h c1 f;exact Mz):=h
def My (h:p:=by
 clear d b c c1 f h;go_wp2_with(go_at_call 161;refine(tN i _).mono ?_;rintro l j ⟨rfl,rfl⟩;rw[<-v.out]);go_round;case rel=>exact⟨i+1,by omega,by omega,by go_num,fun m=>by simp at x;omega,⟨_,rfl⟩,e⟩
 case measure=>exact a4):=h
def Mz (h:p:=by
 go_wp2_with(go_at_call 161;refine(tN i _).mono ?_;rintro l j ⟨rfl,rfl⟩;rw[<-v.out]);exact vZ):=h
def MA (h:p:=by
 clear d b c c1 f c2;go_wp2_with(go_at_call 161;refine(tN i _).mono ?_;rintro l j ⟨rfl,rfl⟩;rw[<-v.out]);go_round;case rel=>exact⟨i+1,by omega,by omega,by go_num,fun m=>rfl,⟨_,rfl⟩,e⟩
 case measure=>exact a4):=h
def MB (h:p:=by
 go_wp2;go_round;case rel=>exact⟨i,b+p,h,f,g,by omega,by go_num,by go_num,by go_num,by go_num,by go_num,by omega,by omega,by omega,l⟩
 case measure=>simp[intOf]):=h
def MC (h:p:=by
 have aP:decide ((97:Int)<=(a[i].toNat:Int))=false:=vo;go_wp2_with fail;refine(tp o m _ m m _).mono ?_;rintro R K ⟨⟨j,rfl,aq,D⟩,rfl⟩;rw[dp]at D;have e:=wJ E (wB D) n;clear n D;go_wp2_with fail;refine(mp _ m m _).mono ?_;rintro R K ⟨⟨p,rfl,aB,aO,c⟩,rfl⟩;have G:((a.size:Int)-1- (i:Int)).toNat=a.size- (i+1):=J;rw[G]at c;clear G;rw[<-c.out,wW]at e;have M:b+j*p<4294967296:=r4;have y:Hid (b+j*p+2^(a.size-i)*C.draw (C.ah a.data.toList i) ((o:Int)/2^(h+1)) ((q:Int)/2^f) ((r:Int)/2^g) d=x):=r5;clear e c E;rcases(show j=0\/j=1 by omega)with rfl|rfl
 . rw[o6,di]at y;go_wp2;go_round;case rel=>exact⟨i,b,h+1,f,g,by omega,by go_num,by go_num,by go_num,by go_num,by go_num,by omega,by omega,by omega,y⟩
   case measure=>simp[intOf]
 . rw[o1]at y M;go_wp2;go_round;case rel=>exact⟨i,b+p,h+1,f,g,by omega,by go_num,by go_num,by go_num,by go_num,by go_num,by omega,by omega,by omega,y⟩
   case measure=>simp[intOf]):=h
def MD (h:p:=by exact⟨i,b,h,f,g,by omega,by go_num,by go_num,by go_num,by go_num,by go_num,by omega,by omega,by omega,l⟩):=h
def AX (h:p:=by
 go_enter func118,ntmps118;exact MI):=h
def sy (h:p:=by
 unfold aV;go_enter func118,ntmps118;go_wp2_with fail;refine(xz i.op b c _).mono ?_;rintro j o ⟨rfl,d⟩;have e:=(dF.start i a _).more d;clear d;simp only[dw];obtain⟨-,n,p,q,r,s,t,u⟩:=id e;go_wp2;go_ret2;exact⟨rfl,((e.alloc _).alloc _).below⟩):=h
def ME (h:p:=by
 go_wp2;go_ret2;exact⟨rfl,(b.alloc _).below⟩):=h
def v0 (h:p:=by repeat(first|exact aq _ _|(with_reducible refine bd ?_ F _)|(with_reducible refine bk ?_ F _))):=h
def MG (h:p:=by
 rintro i j ⟨rfl,rfl⟩;go_wp2;refine ab (v:=ds q p none) u4 rfl ⟨rfl,?_⟩;exact v0):=h
def MH (h:p:=by
 go_enter func311,ntmps311;exact nc):=h
def v5 (h:p:=by
 rintro R U ⟨rfl,g⟩;rw[<-Q.out];have j:=Z.out.more g F;have i:=l (P.out.trans (g.mono P.out.size));clear g Z P Y n;obtain⟨m,u,y,z,B,D,K,L,ac,-⟩:=id j;clear j;cases S with
 |none=>
  unfold ds bo aF;go_wp2;refine ab (v:=ds d k none) GP rfl ⟨by first|rfl|simp[eq,bo],?_⟩;repeat(first|with_reducible exact aq _ _|with_reducible exact i.out|(with_reducible refine bd ?_ F _)|(with_reducible refine bk ?_ F _))
 |some ak=>
  unfold ds bo;go_wp2;refine ab (v:=ds d k (some ak)) GP rfl ⟨by first|rfl|simp[eq,bo],?_⟩;repeat(first|with_reducible exact aq _ _|with_reducible exact i.out|(with_reducible refine bd ?_ F _)|(with_reducible refine bk ?_ F _))):=h
def lV (h:p:=by rw[k]at c;simp at c):=h
def AY (h:p:=by
 rw[z (fun w=>g w.symm)]at b;rw[aU g]at h;have j:(m.toList==d.toList)=false:=by rw[b4]at h|-;exact fun w=>h w.symm
 clear g i h;go_wp2;go_round;case rel=>exact⟨a+1,by omega,by go_num,b⟩
 case measure=>exact a4):=h
def AZ (h:p:=by exact⟨0,by omega,rfl,by simpa using n⟩):=h
def A0 (h:p:=by
 go_enter func223,ntmps223;go_wp2;exact su):=h
def MI (h:p:=by
 go_wp2;exact Oe):=h
def MJ (h:p:=by
 go_enter func155,ntmps155;go_wp2_with(go_at_call 223;refine(n.out _).mono ?_;rintro j i ⟨rfl,rfl⟩);exact Oe):=h
def MK (h:p:=by
 go_enter func155,ntmps155;go_wp2_with(go_at_call 87;refine(s.out _).mono ?_;rintro l j ⟨rfl,i⟩);go_ret2;exact⟨rfl,((aq _ _).alloc (aB _) _).trans (i.mono F)⟩):=h
def A1 (h:p:=by
 rw[<-d]at c|-;have HR:=l c;clear c d f;go_enter func216,ntmps216;go_wp2_with(go_at_call 303;refine(HR.out _).mono ?_;rintro j i ⟨rfl,rfl⟩);go_ret;exact⟨rfl,x _⟩):=h
def MM (h:p:=by
 rw[z (by decide),z (by decide),z (by decide),z (by decide),z (by decide)];obtain⟨B,d⟩:=y (u.aG (Lib.itoa e));have c:=fun i f=>sI e m m i f;exact MN):=h
def MN (h:p:=by
 rw[<-d]at c|-;exact akp):=h
def MO (h:p:=by
 clear c;go_enter func142,ntmps142;go_wp2_with(first|(go_at_call 212;refine(jP _ _).mono ?_;rintro j l ⟨rfl,rfl⟩;rw[x.out])|(go_at_call 213;refine G.out.mono ?_;rintro j u ⟨rfl,E⟩));exact Ls):=h
def MP (h:p:=by repeat(first|with_reducible exact e|(with_reducible refine bd ?_ f _))):=h
def v7 (h:p:=by repeat(first|with_reducible exact aq _ _|with_reducible exact k.out|(with_reducible refine bd ?_ F _)|(with_reducible refine bk ?_ F _))):=h
def MQ (h:p:=by
 rcases a with a|⟨i,rfl,a⟩
 . exact .inl a
 . exact .inr ⟨i,rfl,fun k j=>(a k j).below g (h _ rfl)⟩):=h
def MR (h:p:=by unfold u.cy;simp only;rw[z c,d]):=h
def ajH (h:p:=by
 go_wp2;exact Of):=h
def MS (h:p:=by repeat(first|with_reducible exact aq _ _|with_reducible exact N.out|(with_reducible refine bd ?_ F _)|(with_reducible refine bk ?_ F _))):=h
def MT (h:p:=by
 have o:Hid (f=(5,eL)):=by
  show f=_;rw[HR.out];exact ts _ _ _ (by rw[<-ag.out];exact ak)
 exact akq):=h
def MU (h:p:=by rw[HR.out];exact tr _ _ _ (by rw[v];exact ak) vb):=h
def MV (h:p:=by rw[HR.out];exact tt _ _ _ (by rw[v];exact ak) vb):=h
def MW (h:p:=by
 cases d with
 |nil=>
  have af:Hid (f=(0,⟨[],aF,[]⟩)):=HR;clear HR;go_wp2;refine ab (v:=.tuple #[bo ⟨#[]⟩ aF ⟨#[]⟩,j 0]) u8 rfl ⟨by rw[af.out]<;>simp only[kU]<;> (first|rfl|rw[<-V.out]),?_⟩;repeat(first|with_reducible exact aq _ _|with_reducible exact N.out|(with_reducible refine bd ?_ F _)|(with_reducible refine bk ?_ F _))
 |cons b LT=>
  have bt:=A.out 0 F;obtain⟨aS,aU⟩:=y (⟨b.toArray⟩:K);have d0:c.cell? ⟨s,E,none⟩=some (.string aS):=by rw[<-di E,bt,aU];rfl
  have bx:aS.data.toList=b:=by rw[aU]
  have aA:=Bv aS;obtain⟨bY,bU,bB,bV,bC⟩:=k7 s E ay (b::LT) 1 1 rfl F W;have aC:=bC c A.out;simp only[o8,jw]at bB bV aC;rw[bx]at aA;obtain⟨bs,w⟩:=y (u.bj b);have bw:bs.1<=72:=zA;rw[<-w]at aA;obtain⟨p,L⟩:=bs;have Y:=l aA;have ag:=l w;have bq:=l aC;simp only[c6]at ai W bB;have b5:((LT.length:Int)+1==0)=false:=M;clear bt bC aC aA w aU bx A;by_cases ak:L=0
  . exact MT
  . have b4:((L:Int)==0)=false:=M;have bu:∀n,n=u.bH (u.eN p) false ⟨p,0,0,0,0,L⟩ [] LT->(n=none->f=(6,eL))/\(∀i g,n=some (i,g)->f=(0,⟨[],i,g⟩)):=by
     intro n k;have aj:(u.bj b).1=p:=m8;have v:(u.bj b).2=L:=m8;refine⟨fun a=>?_,fun i g a=>?_⟩
     . exact MU
     . exact MV
    obtain⟨br,hS⟩:=y (Nm.shape p);have a0:=(k5 p bw).1;have bz:=(k5 p bw).2;rw[<-hS]at a0;have ah:Below c.heap.size c (c.alloc (bW ⟨#[]⟩ aF ⟨#[]⟩)):=lT;have aV:=Bt ⟨#[]⟩ ⟨p,0,0,0,0,L⟩ [] br (l hS.symm) a0 (by rw[hS];exact l bz) s bY bU LT m _ (bb.more bq az ah) (aQ az ah.size) (l (fun b bX=>P.out b (rH _ bX)));obtain⟨n,k⟩:=y (u.bH (br.data.toList.map UInt8.toNat) false ⟨p,0,0,0,0,L⟩ [] LT);rw[<-k,xj]at aV;have bv:=bu n (by rw[k,hS];rfl);have aX:=(bA.new c ⟨#[]⟩ aF ⟨#[]⟩);have aR:=l (aV.mono fun x h a=>(⟨a.1,l (ah.trans (a.2.mono ah.size)),l (aX.more a.2 aX.lt)⟩:_/\Hid (Below c.heap.size c h)/\Hid (bA h c.heap.size ⟨#[]⟩ aF ⟨#[]⟩)));have ax:=l bv;unfold bo bW aF at aR;clear bu a0 bz ah aV aX bv hS k HR bq P ag Q X aW aY;go_wp2_with fail;refine(Y.out _).mono ?_;rintro x h ⟨rfl,rfl⟩;go_wp2_with fail;refine aR.out.mono ?_;rintro x h ⟨rfl,N,bD⟩;clear aR Y;have bK:Hid (c.heap.size<h.heap.size):=bD.out.lt;obtain⟨y0,y1,y2,y3,y4,bF,bG,bH,bI,bJ⟩:=bD.out;cases n with
    |none=>
     have af:=l (ax.out.1 rfl);clear ax;go_wp2;refine ab (v:=.tuple #[bo ⟨#[]⟩ aF ⟨#[]⟩,j 6]) u9 rfl ⟨by rw[af.out]<;>rfl,?_⟩;repeat(first|with_reducible exact aq _ _|with_reducible exact N.out|(with_reducible refine bd ?_ F _)|(with_reducible refine bk ?_ va _))
    |some r=>
     obtain⟨D,ac⟩:=r;have af:=l (ax.out.2 D ac rfl);clear ax;obtain⟨bc,aT⟩:=y (qx (some (D,ac)));have bL:Hid (bc=⟨ac.toArray⟩):=aT;have aj:qy ⟨#[]⟩ (some (D,ac))=⟨#[]⟩:=rfl;have v:fP (some (D,ac))=D:=rfl;rw[<-aT,aj,v];clear aT aj v;go_wp2;refine ab (v:=.tuple #[bo ⟨#[]⟩ D bc,j 0]) u9 rfl ⟨by rw[af.out];simp only[kU];rw[<-bL.out]<;> (first|rfl|rw[<-V.out]),?_⟩;repeat(first|with_reducible exact aq _ _|with_reducible exact N.out|(with_reducible refine bd ?_ F _)|(with_reducible refine bk ?_ va _))):=h
def MX (h:p:=by rw[ByteArray.data_append,Array.toList_append]):=h
def ajI (h:p:=by
 go_meet;case rel=>exact(by exact⟨by rw[aG.out],rfl⟩)):=h
def MY (h:p:=by
 have j:(i.V4==2)=false:=eT;rw[z c]at p;exact Nb):=h
def MZ (h:p:=by
 clear W X an;exact A3):=h
def M0 (h:p:=by
 go_wp2_with(go_at_call 142;refine(ag.out _ S.out).mono ?_;rintro j w3 ⟨rfl,i⟩);go_ret2;exact⟨by rw[k.out,af.out];rfl,e.out.trans (i.mono e.out.size)⟩):=h
def M1 (h:p:=by
 go_wp2_with fail;refine H.out.mono ?_;rintro j l ⟨rfl,i⟩;go_wp2;go_ret2;exact⟨by rw[k.out];rfl,i.alloc i.size _⟩):=h
def M2 (h:p:=by
 rintro v t ⟨x,rfl,h,i,q⟩;have o:=i.2;obtain⟨m,n,rfl,w,l,p⟩:=bb.Y0 i h;refine⟨m,n,rfl,?_,l,p,q⟩;rcases o with⟨c,_⟩|⟨g,s,u,c,_,_,r,_⟩
 . exact absurd c h
 . simp only[Value.slice.injEq]at c;rw[c.2.2];exact r):=h
def A3 (h:p:=by
 go_wp2;go_meet;case rel=>exact(by exact⟨rfl,rfl⟩)):=h
def M3 (h:p:=by
 refine Q.out.mono ?_;rintro aO aV ⟨rfl,p,d6⟩;clear Q;obtain⟨ay,K⟩:=x;by_cases b:K=0
 . have aC:(K !=0)=false:=gV;obtain⟨D,M⟩:=y (strOfNums (b3 ay f));have aP:D.size=f:=by rw[M,Ep,xf]
   obtain⟨i,L⟩:=y (e++D);have aU:∀W,(Op.stringOp .add e D).run prog W=.ok (.string i) W:=fun W=>ea (a:=e) (b:=D) (c:=i) L.symm m W;have ac:i.size<=4* (d+1):=HY;have U:Hid (h=u.lay a (a.drop (d+1)) (d+1) i.data.toList):=by
    show h=_;have j:=R.out;rw[B b]at j;rw[j,L,BI,M];rfl
   have aN:=l M;clear R M L b aP;go_wp2_with(go_at_call 147;refine(sF ay f m _).mono ?_;rintro aO aW ⟨rfl,aq⟩;rw[<-aN.out]);go_roundw;case rel=>
    first
     |exact⟨d+1,i,by omega,ac,rfl,by go_num,l (p.out.trans (aq.mono p.out.size)),U⟩
     | ((repeat apply hB);exact⟨⟨d+1,i,by omega,ac,rfl,by go_num,l (p.out.trans (aq.mono p.out.size)),U⟩,rfl⟩)
   case measure=>exact a4
 . have aC:(K !=0)=true:=gV;have U:Hid (h=([],K,d+1)):=by
    show h=_;have j:=R.out;rw[z b]at j;exact j
   clear R b;go_wp2;go_ret3;exact⟨by rw[U.out];rfl,p.out⟩):=h
def A4 (h:p:=by
 go_ret3;exact⟨by rw[HR.out];rfl,aq _ _⟩):=h
def M4 (h:p:=by next m=>exact⟨h,i,by omega,m,by rw[<-h6 d];rfl⟩):=h
def M5 (h:p:=by
 rw[dO,ba]at a;rcases a with a|a
 . omega
 . exact UH _ a W):=h
def M6 (h:p:=by rw[hd];exact⟨VP _,by decide,by decide,by omega,by omega⟩):=h
def M7 (h:p:=by
 rw[hd];obtain⟨i,m,n⟩:=b _ d j;exact⟨i,m,n,by omega,by omega⟩):=h
def A5 (h:p:=by
 rw[e];clear e p o;go_enter func163,ntmps163;go_wp2_with(go_at_call 160;refine(r.out _).mono ?_;rintro l m ⟨rfl,i⟩);exact Og):=h
def M8 (h:p:=by
 go_ret;exact⟨rfl,I.out.trans (P.mono I.out.size)⟩):=h
def M9 (h:p:=by
 rw[z (by decide),z (by decide),z (by decide),z (by decide),z (by decide)];obtain⟨D,e⟩:=y (u.aG (Lib.itoa c));have C:=fun B=>tO c m m B;exact Na):=h
def Na (h:p:=by
 rw[<-e]at C|-;exact akr):=h
def Nb (h:p:=by
 have i:=l p;exact aks):=h
def Nc (h:p:=by
 clear V v;by_cases c:i.V4=2
 . have M:(i.V4==2)=true:=eT;rw[B c]at k;obtain⟨j,l⟩:=y (⟨#[46,104,97,108,102,32]⟩++d:K);have m:(⟨#[46,104,97,108,102,32]⟩:K).size=6:=rfl;have ac:d.size<=21:=HZ;have W:∀a,(Op.stringOp .add ⟨#[46,104,97,108,102,32]⟩ d).run prog a=.ok (.string j) a:=fun a=>ea (a:=⟨#[46,104,97,108,102,32]⟩) (b:=d) (c:=j) l.symm (by rw[m];omega) a;have J:Hid (r=(j.data.toList,0)):=by
    show r=_;rw[k.out,l,kH,ao.out];have D:u.bp 72++[32]=[46,104,97,108,102,32]:=zx;show(u.bp 72++32::Lib.itoa n,(0:Int))=([46,104,97,108,102,32]++Lib.itoa n,0);rw[<-D,oJ];rfl
   exact Oh
 . have M:(i.V4==2)=false:=eT;rw[z c]at k;obtain⟨j,l⟩:=y (⟨#[46,119,111,114,100,32]⟩++d:K);have m:(⟨#[46,119,111,114,100,32]⟩:K).size=6:=rfl;have ac:d.size<=21:=HZ;have W:∀a,(Op.stringOp .add ⟨#[46,119,111,114,100,32]⟩ d).run prog a=.ok (.string j) a:=fun a=>ea (a:=⟨#[46,119,111,114,100,32]⟩) (b:=d) (c:=j) l.symm (by rw[m];omega) a;have J:Hid (r=(j.data.toList,0)):=by
    show r=_;rw[k.out,l,kH,ao.out];have D:u.bp 71++[32]=[46,119,111,114,100,32]:=zx;show(u.bp 71++32::Lib.itoa n,(0:Int))=([46,119,111,114,100,32]++Lib.itoa n,0);rw[<-D,oJ];rfl
   exact Oh):=h
def Nd (h:p:=by
 clear g i h HR;exact Oi):=h
def Nf (h:p:=by
 clear b n f HR;exact Oi):=h
def A7 (h:p:=by exact l (fun i F k=>by rw[A.out]at k;cases k)):=h
def A8 (h:p:=by repeat(first|with_reducible exact aq _ _|with_reducible exact o.out|with_reducible exact h.out|(with_reducible refine bd ?_ F _)|(with_reducible refine bk ?_ F _)|(with_reducible refine fF ?_))):=h
def Ng (h:p:=by
 go_enter h9,ia;go_wp2_with fail;refine(x.out _).mono ?_;rintro K u ⟨rfl,g⟩;have h:=l (o.out.trans (g.mono o.out.size));have D:=t.out.more g ad;have y:=s.out.more g F;have U:=l D;have M:=l y;have d0:al u f d (.string r):=iZ;obtain⟨y0,y1,y2,y3,y4,G,H,I,J,N,O,P⟩:=id D;obtain⟨Q,R,S,T,V,X,Y,Z,aa,ac,ae,af⟩:=id y;clear D y g t s x;have d1:al u f (d+1) (.string B):=H1;have d2:al u f (d+2) (.string aj):=H2;have d3:al u f (d+3) (.string C):=H3;go_wp2_with fail;refine(aA.out _).mono ?_;rintro K L ⟨rfl,rfl⟩;go_wp2_with fail;refine(az.out _).mono ?_;rintro K L ⟨rfl,rfl⟩;go_wp2;refine ab (v:=.tuple #[bC b i c,.slice (some ⟨f,d,none⟩) (L4.length+1+1+1+1) v,.bool false]) iX rfl ⟨⟨i,c,d,L4.length+1+1+1+1,v,?_,?_⟩,?_⟩
 . rw[A.out];rfl
 . exact A7
 . exact A8):=h
def Nh (h:p:=by refine⟨?_,?_,?_,?_,?_,?_,?_,?_,?_,?_,?_,?_⟩<;>simp[go_sem,g,h,j,k,l,m,n,o,p,q,r,s]):=h
def Ni (h:p:=by refine⟨?_,?_,?_,?_,?_,?_,?_,?_,?_,?_,?_,?_⟩<;>simp[go_sem,g,h,j,k,l,m,n,o,p,q,s,t,b,r]):=h
def Nj (h:p:=by
 obtain⟨g,h,j,k,l,m,n,o,p,q,r,s⟩:=id t;exact Nh):=h
def Nk (h:p:=by
 go_wp2_with fail;go_meet;case rel=>exact⟨false,rfl,rfl,l ⟨fun g=>(by cases g),fun g=>absurd g be.out⟩⟩):=h
def Nl (h:p:=by repeat(first|with_reducible exact aq _ _|with_reducible exact ax.out|(with_reducible refine bd ?_ rP _)|(with_reducible refine bk ?_ rQ _)|(with_reducible refine fF ?_))):=h
def v9 (h:p:=by exact absurd E (by rw[af];simp)):=h
def wa (h:p:=by
 clear b;go_enter o9,pa;go_wp2_with fail;go_ret2;exact⟨by rw[f.out];rfl,v.out _⟩):=h
def Nn (h:p:=by
 clear b;go_enter o9,pa;go_wp2_with fail;refine(N.out _).mono ?_;rintro l m ⟨rfl,j⟩;unfold u.aG;go_wp2_with fail;go_ret2;exact⟨by rw[f.out];rfl,(v.out _).trans (j.mono (v.out _).size)⟩):=h
def No (h:p:=by
 by_cases b:X=0
 . have l:(X !=0)=false:=gV;have j:Hid (F=(u.dS Z a,0)):=by
    show F=_;rw[P.out,B b]
   clear b P;go_wp2_with fail;refine(xg Z a m _).mono ?_;rintro y D ⟨rfl,p⟩;unfold u.aG;go_wp2_with fail;go_ret2;exact⟨by rw[j.out];rfl,ag.out.trans (p.mono ag.out.size)⟩
 . have l:(X !=0)=true:=gV;have j:Hid (F=([],7)):=by
    show F=_;rw[P.out,z b]
   clear b P;go_wp2_with fail;go_ret2;exact⟨by rw[j.out];rfl,ag.out⟩):=h
def Np (h:p:=by
 rintro j l ⟨rfl,s⟩;exact akt):=h
def Nq (h:p:=by
 rintro j l ⟨rfl,i⟩;go_wp2_with fail;go_ret;exact⟨rfl,xX s.out d.out.1 d.out.2.1 ((g.out _).trans (i.mono (g.out _).size))⟩):=h
def Nr (h:p:=by
 go_wp2;go_ret;exact⟨⟨_,rfl,fun _=>by omega⟩,rfl⟩):=h
def Ns (h:p:=by
 go_wp2_with fail;go_ret;exact⟨rfl,aq _ _⟩):=h
def Nt (h:p:=by
 clear K c Z Y aj al an ao ap aq;exact aku):=h
def Nu (h:p:=by
 clear K c Z Y aj al an ao ap aq;exact akv):=h
def Nv (h:p:=by
 obtain⟨i,l,af,I,J,y,N,B,O,E,S,G⟩:av w3 (f.heap.size+1) 0 0:=sf;go_wp2_with(first|(go_at_call 198;refine(ou _).mono ?_;rintro W ag ⟨rfl,rfl⟩));refine ab (v:=.agg #[j (-1),j 0]) (by simp[results,results200,go_sem,i,l,I,J,y,N,B,O,E,S,G,ei,fb]) rfl ⟨rfl,aH.box (f.heap.size+1) ?_ m m,?_⟩
 . exact jJ
 . exact sq):=h
def Nw (h:p:=by
 go_wp2_with(go_at_call 189;refine(g.out _).mono ?_;rintro j l ⟨rfl,rfl⟩);go_end0;refine⟨rfl,?_,?_⟩
 . exact s.out.drew
 . exact AC):=h
def Nx (h:p:=by
 simp at d;obtain⟨⟨rfl,rfl,rfl⟩,rfl⟩:=d;go_wp2_with fail;exact wb):=h
def wb (h:p:=by
 refine(aY.out _ _ N).mono ?_;exact akw):=h
def i4 (h:p:=by
 rw[<-d]at v;dsimp only at v;go_wp2_with fail;refine(v.out _ N).mono ?_;rintro l y ⟨rfl,ac,i⟩;have L:=aa.more i ad;have ae:=Z.trans (i.mono ze);exact wd):=h
def Ny (h:p:=by
 refine(aC.out _ _).mono ?_;exact akx):=h
def wd (h:p:=by
 have F:=L.cell 0 _ rfl;exact aky):=h
def we (h:p:=by
 go_wp2;exact A9):=h
def A9 (h:p:=by
 go_ret;exact⟨by first|rfl|(refine congrArg (fun r=>Ending.returned (Value.bool r)) ?_;simp;omega),rfl⟩):=h
def Nz (h:p:=by
 go_ret;exact⟨by first|rfl|(refine congrArg (fun m=>Ending.returned (j m)) ?_;omega),rfl⟩):=h
def ajJ (h:p:=by
 rw[<-g.out]at j;exact akz):=h
def ajK (h:p:=by
 go_wp2;go_ret2;exact⟨⟨j,(c.out.trans i.out:_=_),by omega,rfl⟩,rfl⟩):=h
def ajL (h:p:=by
 rw[e.out]at b;go_wp2;go_ret2;exact⟨by rw[b.out];rfl,rfl⟩):=h
def ajM (h:p:=by
 obtain⟨k,o⟩:=y (u.dc 10 0 (a.data.toList.drop 0));rw[<-o]at d;have r:=l d;have v:Hid (u.dc 10 0 (a.data.toList.drop 0)=k):=o.symm;clear o d q;go_enter func389,ntmps389;go_wp2;go_loop [6,7] (fun C e=>∃i b:Nat,i<=a.size/\C=j b/\e=j i/\Hid (b+1<=10^i)/\Hid (u.dc 10 b (a.data.toList.drop i)=k)) (fun _ e=>a.size- (intOf e).toNat);case atStart=>exact If
 case round=>
  obtain⟨i,b,M,rfl,rfl,f,c⟩:=hrel;have H:b<=10000000000:=by
   have J:=f.out;have K:10^i<=10^10:=kj;have L:((10:Nat)^10)=10000000000:=cK;omega
  by_cases h:i<a.size
  . go_wp2_with fail;refine(EP a[i] _).mono ?_;rintro I D ⟨rfl,rfl⟩;obtain⟨e,hd⟩:=y (u.cp a[i]);rw[<-hd];have g:=l hd;clear hd;by_cases d16:e=16
    . exact F4
    rw[z d16];by_cases x:10<=e
    . exact F5
    . exact F3
  . obtain rfl:i=a.size:=by omega
    have hd:a.data.toList.drop a.size=[]:=rV;rw[hd]at c;exact ND):=h
def NB (h:p:=by
 clear d;go_enter func389,ntmps389;go_wp2;go_ret2;exact⟨⟨none,i,by simp,rfl⟩,rfl⟩):=h
def ajN (h:p:=by
 rw[B d16];exact NC):=h
def NC (h:p:=by
 clear c;exact akA):=h
def ND (h:p:=by
 have i:Hid (some b=k):=c;exact akB):=h
def NE (h:p:=by
 go_wp2;go_ret;exact⟨_,rfl,V,by rw[j.out];exact h,o⟩):=h
def ajO (h:p:=by
 match u,j with
 |0,j=>simp at j;subst j;simp[Addr.add]):=h
def NF (h:p:=by
 go_wp2;go_ret;exact⟨by rw[<-HR.out]<;>rfl,rfl⟩):=h
def ajP (h:p:=by
 go_wp2_with fail;refine(d.out _).mono ?_;rintro l m ⟨rfl,rfl⟩;go_wp2_with fail;refine(e.out _).mono ?_;rintro l m ⟨rfl,rfl⟩;go_wp2_with fail;refine(c.out _).mono ?_;exact ex):=h
def NG (h:p:=by
 rintro g l ⟨rfl,rfl⟩;go_wp2_with fail;refine(d.out _).mono ?_;exact NH):=h
def ajQ (h:p:=by
 go_wp2_with fail;refine(e.out _).mono ?_;exact ex):=h
def NH (h:p:=by
 rintro m y ⟨rfl,rfl⟩;exact akC):=h
def NI (h:p:=by
 go_wp2_with fail;exact akD):=h
def ajR (h:p:=by
 rw[<-g]at b k;rw[<-h]at c n;clear g h;by_cases i:e<f
 . rw[B i];have hd:decide (e<f)=true:=M;exact hG
 . rw[z i];have hd:decide (e<f)=false:=M;exact hG):=h
def ajS (h:p:=by
 rw[B e];exact hG):=h
def ajT (h:p:=by
 rw[z e];exact hG):=h
def ajU (h:p:=by
 have h:(c==1)=true:=Ix;rw[B f1];exact Om):=h
def ajV (h:p:=by
 have h:(c==1)=false:=Ix;rw[z f1];exact Om):=h
def ajW (h:p:=by
 go_wp2_with fail;refine s.out.mono ?_;rintro j l ⟨rfl,rfl⟩;go_wp2_with fail;refine t.out.mono ?_;rintro j l ⟨rfl,rfl⟩;exact NJ):=h
def NJ (h:p:=by
 go_wp2_with fail;go_ret;exact so):=h
def ajX (h:p:=by
 go_wp2_with fail;refine v.out.mono ?_;rintro j l ⟨rfl,rfl⟩;go_wp2_with fail;refine w.out.mono ?_;rintro j l ⟨rfl,rfl⟩;go_wp2_with fail;go_end0;exact⟨rfl,p.out,qm F⟩):=h
def ajY (h:p:=by
 go_ret;exact⟨rfl,E.out,qm F⟩):=h
def ajZ (h:p:=by
 go_wp2_with fail;go_ret2;exact⟨by rw[O.out]<;>rfl,by rw[O.out];exact h.out,f.out⟩):=h
def aj0 (h:p:=by
 go_ret;exact⟨by rw[e.out]<;>rfl,rfl⟩):=h
def NL (h:p:=by
 refine⟨rfl,c.out,?_⟩;exact pJ):=h
def aj1 (h:p:=by
 go_end0;exact so):=h
def NM (h:p:=by
 go_wp2_with fail;go_ret;exact⟨by rw[f.out]<;>rfl,j⟩):=h
def aj2 (h:p:=by
 go_ret;exact NL):=h
def NN (h:p:=by
 go_wp2_with fail;go_ret;exact⟨rfl,a⟩):=h
def aj3 (h:p:=by
 refine d.out.mono ?_;rintro j l ⟨rfl,rfl⟩;go_wp2_with fail;go_ret2;exact⟨rfl,rfl⟩):=h
def aj4 (h:p:=by
 go_wp2_with(first|(go_at_call 448;refine B.out.mono ?_;rintro f g ⟨rfl,rfl⟩)|(go_at_call 449;refine A.out.mono ?_;rintro f g ⟨rfl,rfl⟩)|(go_at_call 443;first|((with_reducible refine v.out.mono ?_);rintro f g ⟨rfl,rfl⟩)|((with_reducible refine w.out.mono ?_);rintro f g ⟨rfl,rfl⟩)|((with_reducible refine x.out.mono ?_);rintro f g ⟨rfl,rfl⟩)|((with_reducible refine z.out.mono ?_);rintro f g ⟨rfl,rfl⟩)));exact lR):=h
def NQ (h:p:=by
 subst d;exact On):=h
def Ba (h:p:=by
 replace d:R=((O,0),{c.b with o:=bt c.b.o (f-2147483648) 4 (b+64)}):=d;subst d;exact Oo):=h
def NR (h:p:=by
 go_enter mR,mS;go_wp2_with(first|(first|(go_at_call 392;refine o.out.mono ?_;rintro j l ⟨rfl,rfl⟩)|(go_at_call 393;refine N.out.mono ?_;rintro j l ⟨rfl,rfl⟩)|(go_at_call 444;refine w.out.mono ?_;rintro j l ⟨rfl,rfl⟩)|(go_at_call 443;first|((with_reducible refine x.out.mono ?_);rintro j l ⟨rfl,rfl⟩)|((with_reducible refine A.out.mono ?_);rintro j l ⟨rfl,rfl⟩)|((with_reducible refine C.out.mono ?_);rintro j l ⟨rfl,rfl⟩)|((with_reducible refine E.out.mono ?_);rintro j l ⟨rfl,rfl⟩)|((with_reducible refine H.out.mono ?_);rintro j l ⟨rfl,rfl⟩)|((with_reducible refine K.out.mono ?_);rintro j l ⟨rfl,rfl⟩)|((with_reducible refine L.out.mono ?_);rintro j l ⟨rfl,rfl⟩)))|(go_at_call 428;refine(ay.out (az.out F) (aB.out F)).mono ?_;rintro j w3 ⟨rfl,p,m⟩));exact Bi):=h
def Bb (h:p:=by
 replace d:R=((O,0),c.b):=d;exact NQ):=h
def NS (h:p:=by
 go_enter mR,mS;go_wp2_with(first|(first|(go_at_call 392;refine o.out.mono ?_;rintro j l ⟨rfl,rfl⟩)|(go_at_call 393;refine N.out.mono ?_;rintro j l ⟨rfl,rfl⟩)|(go_at_call 444;refine w.out.mono ?_;rintro j l ⟨rfl,rfl⟩)|(go_at_call 443;first|((with_reducible refine x.out.mono ?_);rintro j l ⟨rfl,rfl⟩)|((with_reducible refine A.out.mono ?_);rintro j l ⟨rfl,rfl⟩)|((with_reducible refine C.out.mono ?_);rintro j l ⟨rfl,rfl⟩)|((with_reducible refine E.out.mono ?_);rintro j l ⟨rfl,rfl⟩)|((with_reducible refine H.out.mono ?_);rintro j l ⟨rfl,rfl⟩)|((with_reducible refine K.out.mono ?_);rintro j l ⟨rfl,rfl⟩)|((with_reducible refine L.out.mono ?_);rintro j l ⟨rfl,rfl⟩)))|(go_at_call 428;refine(aA.out (aB.out F)).mono ?_;rintro j w3 ⟨rfl,p,m⟩));exact Bi):=h
def NT (h:p:=by
 subst d;exact akE):=h
def Bc (h:p:=by
 replace d:P=((T,0),{c.b with o:=bt c.b.o aC 4 (b+64)}):=by rw[d];simp
 subst d;as_aux_lemma=>
  exact Oo):=h
def Bd (h:p:=by
 replace d:P=((T,0),c.b):=by rw[d];simp
 exact NT):=h
def NU (h:p:=by
 go_wp2_with(first|(go_at_call 135;refine(e0 _ _).mono ?_;rintro f e ⟨rfl,rfl⟩)|(go_at_call 263;refine(ui _ rL _).mono ?_;rintro f e ⟨rfl,rfl⟩)|(go_at_call 255;refine(mH _ _).mono ?_;rintro f e ⟨rfl,rfl⟩)|(go_at_call 337;refine(ahe _ _ _).mono ?_;rintro f e ⟨rfl,rfl⟩)|(go_at_call 338;refine(ahX _ _ _).mono ?_;rintro f e ⟨rfl,rfl⟩)|(go_at_call 336;refine(agp _ _ m m m m _).mono ?_;rintro f e ⟨rfl,rfl⟩));go_ret;exact⟨eM (by(try simp only[q6]);first|exact EN b a|exact aaj _|exact aal b a c d|exact aam b a c d|exact aap b a c d|exact aaq b a c d|exact aaF b a c d|exact aaG b a c d|exact aaI b a r HR.out|exact aaJ b a|(rw[show kD b a=am (aX b/ ((2^r:Nat):Int))by rw[HR.out];rfl];simp)|(rw[show kE b a=b/2^r by rw[HR.out];rfl];simp)|rfl),rfl⟩):=h
def aj5 (h:p:=by
 refine o.out.mono ?_;exact ex):=h
def NV (h:p:=by
 clear a;exact NW):=h
def NW (h:p:=by
 go_enter func333,ntmps333;exact akF):=h
def aj6 (h:p:=by
 go_ret;exact⟨rfl,((Kept.refl _ _).alloc _).drewN _⟩):=h
def NX (h:p:=by
 have B:=l.cell 0 _ rfl;have D:=l.cell 1 _ rfl;have I:=l.cell 2 _ rfl;obtain⟨-,J,P⟩:=id l;exact F7):=h
def aj7 (h:p:=by
 go_wp2_with fail;exact akG):=h
def Be (h:p:=by
 cases af
 . exact pQ
 . cases ag
   . cases X
     . exact pQ
     . cases W
       . exact Oq
       . exact Oq
   . cases ah
     . cases X
       . exact Ot
       . cases W
         . exact Ou
         . exact Ou
     . exact Ot):=h
def Bf (h:p:=by
 go_wp2_with fail;exact akH):=h
def aj8 (h:p:=by
 clear e;go_enter oT,oU;go_wp2_with fail;refine(d.out _).mono ?_;rintro j l ⟨rfl,rfl⟩;exact Bf):=h
def aj9 (h:p:=by
 go_ret;refine⟨rfl,?_⟩;exact nk):=h
def NY (h:p:=by
 refine(o.out _ (l ay)).mono ?_;exact akI):=h
def NZ (h:p:=by
 obtain⟨bF,bG,bH,bI,bJ,bK,bL,bQ,bR,bM,bS,bN,bT,bO,bU,bP⟩:a7 w3 g.heap.size s V X Y T U:=H8;obtain⟨bV,bW,bX,b2,b3,bY,b4,bZ,b5,b0,b6,b1⟩:av w3 (g.heap.size+1) 0 0:=sf;obtain⟨a9,bq,bu,bA,bB,bv,bC,bw,bD,bx,bE,bz⟩:av w3 i.heap.size f d:=sf;go_wp2_with(first|(go_at_call 268;refine(P.out _).mono ?_;rintro E I ⟨rfl,rfl⟩)|(go_at_call 270;refine(Q.out _).mono ?_;rintro E I ⟨rfl,rfl⟩)|(go_at_call 135;refine(R.out _).mono ?_;rintro E I ⟨rfl,rfl⟩));exact NY):=h
def aka (h:p:=by
 go_wp2_with fail;go_end0;refine⟨rfl,i,?_⟩;exact pT):=h
def N0 (h:p:=by
 go_upto_region 1 with fail;refine gi ?_;refine wpList_plain rfl (fun p n=>?_);go_simp;refine n _ _ ?_;clear n p;refine wpList_plain rfl (fun p n=>?_);go_simp;refine n _ _ ?_;clear n p;refine wpList_plain rfl (fun p n=>?_);go_simp;refine n _ _ ?_;clear n p;refine rw rfl _ _ rfl c 38 (by rfl) i _ HR.out rB rfl uU ?_;refine wpList_plain rfl (fun p n=>?_);go_simp;refine n _ _ ?_;clear n p;refine gj rfl _ _ _ rfl b.heap.size 0 i.toArray rfl rfl uV uW uX ?_;obtain⟨f,l,d,r⟩:=sQ b (#[j 0,j 0,j 0,j 0,j 0,j 0,j 0,j 0,j 0,j 0,j 0,j 0,j 0,j 0,j 0,j 0,j 0,j 0,j 0,j 0,j 0,j 0,j 0]) 71 i.toArray h;rw[<-l];clear l;have d0:al f b.heap.size 0 (j a.c.V5):=aje;have d1:al f b.heap.size 1 (j a.c.WG):=ajf;have d2:al f b.heap.size 2 (j a.c.V9):=Hu;have d3:al f b.heap.size 3 (j a.c.Wd):=ajg;have d5:al f b.heap.size 5 (j a.c.Wz):=ajh;have d6:al f b.heap.size 6 (j a.c.Wp):=aji;have d7:al f b.heap.size 7 (j a.c.W8):=ajj;have d8:al f b.heap.size 8 (j a.c.WK):=ajk;have d9:al f b.heap.size 9 (j a.c.Wm):=ajl;have d10:al f b.heap.size 10 (j a.c.Wx):=ajm;have d11:al f b.heap.size 11 (j a.c.WB):=ajn;have d12:al f b.heap.size 12 (j a.c.WH):=ajo;have d13:al f b.heap.size 13 (j a.c.WA):=ajp;have d14:al f b.heap.size 14 (j a.c.WR):=ajq;have d15:al f b.heap.size 15 (j a.c.Wu):=ajr;have d16:al f b.heap.size 16 (j a.c.WD):=ajs;have d17:al f b.heap.size 17 (j a.c.WI):=ajt;have d18:al f b.heap.size 18 (j a.c.Wf):=aju;clear d;refine gl ?_;go_wp2_with fail;go_ret2;exact⟨rfl,r⟩):=h
def akb (h:p:=by
 go_wp2_with(go_at_call 255;refine(mH _ _).mono ?_;rintro j r ⟨rfl,rfl⟩);exact akJ):=h
def N1 (h:p:=by
 clear i;exact F8):=h
def N2 (h:p:=by
 clear a c p K L g q w x v Y A u;go_enter func203,ntmps203;go_wp2_with(go_at_call 39;refine(X.out _ C).mono ?_;rintro i y ⟨rfl,rfl⟩);refine(t.out _ C).mono ?_;rintro i N ⟨rfl,b⟩;have E:=l (C.out.kept b);obtain⟨ag,aj,al,an,ap,ar,av,aF,aG,ax,aH,ay,aI,az,aJ,aA⟩:a7 N k.heap.size D H T U P S:=i1;go_wp2_with fail;refine(n.out _ E).mono ?_;rintro i W ⟨rfl,r,e⟩;obtain⟨ai,ak,am,ao,aq,au,aw,aM,aN,aB,aO,aC,aP,aD,aR,aE⟩:a7 W k.heap.size D H T U P S:=zI;have B:=r.Yr;rw[O]at B;have G:=r.alloc (.cells #[j D,j H,j T,j U,j P,j S] 60);have af:=r.lt;go_upto_region 9 with(go_at_call 134;refine(o.out _).mono ?_;rintro i y ⟨rfl,rfl⟩);go_region_with(first|(go_at_call 280;refine(s.out _).mono ?_;rintro i y ⟨rfl,rfl⟩)|(go_at_call 279;refine(f.out _ (l G.drew)).mono ?_;rintro i w3 ⟨rfl,I,h⟩));all_goals
  go_wp2_with fail;go_end0;refine⟨rfl,I,?_⟩;exact sq):=h
def N3 (h:p:=by
 cases t6
 . exact pU
 . cases t7
   . exact pU
   . exact pU):=h
def akc (h:p:=by
 have ap:(a==38)=false:=M;have aq:(a==39)=false:=M;clear k o n s c;go_enter mW,mX;go_wp2_with(first|(go_at_call 195;refine(HR.out _).mono ?_;rintro i P ⟨rfl,rfl⟩)|(go_at_call 192;refine(h.out _).mono ?_;rintro i P ⟨rfl,rfl⟩));refine(d.out _ p).mono ?_;rintro i l ⟨rfl,O,b⟩;obtain⟨W,Z,aa,ac,ad,ae,af,ak,al,ag,am,ah,an,ai,ao,aj⟩:a7 l e.heap.size a w x y u v:=jF;obtain⟨r,A,ar,G,H,B,I,C,J,D,K,E⟩:av l (e.heap.size+1) 0 0:=ii;go_wp2_with fail;refine ab (v:=.agg #[j t,j z]) GO rfl ⟨rfl,O.box (e.heap.size+1) ?_ m m,?_⟩
 . exact jJ
 . exact nk):=h
def akd (h:p:=by
 go_enter mW,mX;go_wp2_with(first|(first|(go_at_call 195;refine(HR.out _).mono ?_;rintro i l ⟨rfl,rfl⟩)|(go_at_call 192;refine(f.out _).mono ?_;rintro i l ⟨rfl,rfl⟩))|(go_at_call 198;refine(ou _).mono ?_;rintro i v ⟨rfl,rfl⟩));refine ab (v:=.agg #[j (-1),j 0]) uZ rfl ⟨rfl,?_,?_⟩
 . exact vU
 . exact ss):=h
def ake (h:p:=by
 go_wp2_with(first|(go_at_call 195;refine(HR.out _).mono ?_;rintro i S ⟨rfl,rfl⟩)|(go_at_call 192;refine(p.out _).mono ?_;rintro i S ⟨rfl,rfl⟩));refine(h.out _ n).mono ?_;rintro i y ⟨rfl,b⟩;have E:=l (n.out.kept b);obtain⟨W,ag,aj,al,an,ap,ar,aE,aF,aw,aG,ax,aH,ay,aI,az⟩:a7 y d.heap.size a t u v r s:=jF;obtain⟨aR,aS,aT,aZ,a0,aV,a1,aW,a2,aX,a3,aY⟩:av y (d.heap.size+1) 0 0:=ii;go_wp2_with fail;refine(g.out _ E).mono ?_;rintro i C ⟨rfl,G,e⟩;obtain⟨af,ai,ak,am,ao,aq,au,aJ,aM,aA,aN,aB,aO,aC,aP,aD⟩:a7 C d.heap.size a t u v r s:=zI;obtain⟨H,I,aU,N,O,J,P,K,Q,L,R,M⟩:av C (d.heap.size+1) 0 0:=⟨jD,jD,Hw,cd gT⟩;go_wp2_with(go_at_call 198;refine(ou _).mono ?_;rintro i a4 ⟨rfl,rfl⟩);refine ab (v:=.agg #[j (-1),j 0]) (by simp[results,results133,go_sem,H,I,N,O,J,P,K,Q,L,R,M,ei,fb]) rfl ⟨rfl,G.box (d.heap.size+1) ?_ m m,?_⟩
 . exact jJ
 . exact Av):=h
def N4 (h:p:=by
 have W:=r.c3;rw[xQ]at W;have ad:=y.cell 5 _ rfl;clear aq ar;go_upto_region 28 with fail;go_region_with(first|(go_at_call 395;refine(bO.out _).mono ?_;rintro ak am ⟨rfl,j⟩;have i:=l.drew.kept (Below.kept j []);have B:=i.cell 0 _ rfl;have D:=i.cell 1 _ rfl;have I:=i.cell 2 _ rfl;have J:=i.Wb;have M:=i.lt));all_goals
  have i:=l.drew.kept (Below.kept j []);have B:=i.cell 0 _ rfl;have D:=i.cell 1 _ rfl;have I:=i.cell 2 _ rfl;obtain⟨-,J,M⟩:=id i;have g:=r.drew.kept (Below.kept j []);have s:=z.drew.trans ((Below.kept j []).mono F);go_wp2_with fail;refine ab GQ rfl (aF _ _ ⟨rfl,?_,?_⟩)
  . exact nj
  . exact pP):=h
def N5 (h:p:=by
 have B:=i.cell 0 _ rfl;have D:=i.cell 1 _ rfl;have I:=i.cell 2 _ rfl;obtain⟨-,J,M⟩:=id i;exact ai8):=h
def N6 (h:p:=by
 go_wp2_with(go_at_call 228;refine(Dm W m _ m m _).mono ?_;rintro D C ⟨⟨z,rfl,G,j⟩,rfl⟩);have B:((a.size:Int)-1- (i:Int)).toNat=a.size-1-i:=J;rw[B]at j;have A:=aaf (c:=a[i]) g f j e;go_round;case rel=>exact⟨i+1,2*c+z,b+1,by omega,by go_num,by go_num,by go_num,by rw[iF a i g,h];exact A⟩
 case measure=>exact a4):=h
def akf (h:p:=by
 go_round;case rel=>exact⟨i+1,c,b,by omega,by go_num,by go_num,by go_num,by rw[iF a i g,h];exact r⟩
 case measure=>exact a4):=h
def N7 (h:p:=by
 go_wp2;go_ret;exact⟨congrArg (fun g=>Ending.returned (j g)) (by rw[HR.out];rfl),rfl⟩):=h
def akg (h:p:=by
 go_wp2;exact ab (v:=dw (aW.half _)) (by simp[results,results158,go_sem,dw,aW.half]) rfl ⟨rfl,by repeat(first|exact aq _ _|refine bd ?_ F _|refine bk ?_ F _)⟩):=h
def akh (h:p:=by
 go_round;case rel=>exact⟨i+1,by omega,by go_num,x⟩
 case measure=>exact a4):=h
def N8 (h:p:=by
 rw[f2];exact ai9):=h
def N9 (h:p:=by
 have q:(decide (a.held%2=0)&&!a.W6)=false:=ic;have f1:=sW q;have s:(true&&decide (a.held/4%2=0)&&!a.W7)=false:=ie;have f2:cY a true=a:=by
  unfold cY;rw[f1];exact nL (C:=a) s
 exact N8):=h
def Oa (h:p:=by
 clear q s f1 f2 v w x y t p;exact uP):=h
def aki (h:p:=by
 have b:=l (((d.out.set (C':={a with Wa:=0}) 32 (j 0) rfl m).set (C':={a with Wa:=0,Wg:=(a.Wg+1)%4294967296}) 33 (j (((a.Wg+1)%4294967296:Nat):Int)) rfl m));have c:=l ((((d.out.set (C':={a with Wa:=a.Wa+1}) 32 (j ((a.Wa+1:Nat):Int)) rfl m).set (C':={a with Wa:=0}) 32 (j 0) rfl m).set (C':={a with Wa:=0,Wg:=(a.Wg+1)%4294967296}) 33 (j (((a.Wg+1)%4294967296:Nat):Int)) rfl m));have q:((a.Wa+1:Nat):Int)=(a.Wa:Int)+1:=J;have r:((a.ret+1:Nat):Int)=(a.ret:Int)+1:=J;have s:(((a.Wg+1)%4294967296:Nat):Int)=((a.Wg:Int)+1)%4294967296:=J;have v:(((a.We+1)%4294967296:Nat):Int)=((a.We:Int)+1)%4294967296:=J;try rw[s]at b
 try rw[s]at c
 try rw[v]at b
 try rw[v]at c
 try rw[q]at b
 try rw[q]at c
 try rw[r]at b
 try rw[r]at c
 have w:((a.Wa:Int)+1==4294967296)=true:=jC;exact F2):=h
def Ob (h:p:=by
 clear e f f1 f2 g h i k t o p;exact uP):=h
def akj (h:p:=by
 have b:=l ((d.out.set (C':={a with Wa:=a.Wa+1}) 32 (j ((a.Wa+1:Nat):Int)) rfl m));have c:=l ((d.out.set (C':={a with Wa:=a.Wa+1}) 32 (j ((a.Wa+1:Nat):Int)) rfl m));have q:((a.Wa+1:Nat):Int)=(a.Wa:Int)+1:=J;have r:((a.ret+1:Nat):Int)=(a.ret:Int)+1:=J;have s:(((a.Wg+1)%4294967296:Nat):Int)=((a.Wg:Int)+1)%4294967296:=J;have v:(((a.We+1)%4294967296:Nat):Int)=((a.We:Int)+1)%4294967296:=J;try rw[s]at b
 try rw[s]at c
 try rw[v]at b
 try rw[v]at c
 try rw[q]at b
 try rw[q]at c
 try rw[r]at b
 try rw[r]at c
 have w:((a.Wa:Int)+1==4294967296)=false:=gU;exact F2):=h
def akk (h:p:=by
 have l:=x.cell 1 _ rfl;have z:=x.cell 2 _ rfl;obtain⟨-,B,F⟩:=id x;go_wp2_with fail;refine ab (by simp[results,results321,go_sem,j,l,z,B,F]) rfl (U _ _ ⟨rfl,?_,?_⟩)
 . exact nj
 . exact pP):=h
def Oc (h:p:=by
 subst y;rw[<-m]at aZ ar av aw;simp only[<-m]at L4;clear Q R x m;go_wp2_with fail;refine(L4 _).out.mono ?_;rintro ah a0 ⟨rfl,B⟩;have j:=d.out.kept (Below.k B);have f1:=j.c1;have K:=S a0 j;have I:=l j;have V:=l (w.out.trans (Below.k B));clear B L4 S d w j;go_wp2_with fail;refine K.out.mono ?_;rintro ah a1 ⟨rfl,D⟩;have z:=I.out.kept (Below.k D);have f0:=z.V8;have M:=T a1 z;have W:=l (V.out.trans (Below.k D));clear D T I V z K;go_wp2_with fail;refine M.out.mono ?_;rintro ah a4 ⟨rfl,ai⟩;have aE:=l (W.out.trans (Below.k ai));clear ai W M;go_wp2_with fail;go_ret;exact⟨rfl,aE.out⟩):=h
def akl (h:p:=by
 go_wp2_with fail;go_ret;exact⟨rfl,_,x.out.1,x.out.2.1.of B.out.size,(xa B.out).trans x.out.2.2⟩):=h
def akm (h:p:=by
 have D:=l (w.out.trans t);clear t a n w F G;go_wp2_with fail;go_ret;exact⟨rfl,I.out,D.out⟩):=h
def akn (h:p:=by
 go_wp2_with fail;go_ret;exact⟨rfl,aR.out,aQ.out⟩):=h
def ako (h:p:=by
 go_wp2;go_ret2;exact⟨by rw[p.out];rfl,rfl⟩):=h
def Od (h:p:=by exact⟨rfl,b.trans (s.mono b.size)⟩):=h
def Oe (h:p:=by
 go_ret2;exact Mv):=h
def akp (h:p:=by
 have HR:=l c;clear c d f;go_enter func216,ntmps216;go_wp2_with(go_at_call 213;refine(HR.out _ (ae.out _)).mono ?_;rintro m u ⟨rfl,j⟩);go_ret;exact⟨rfl,(x _).trans (j.mono (x _).size)⟩):=h
def Of (h:p:=by
 refine ab (v:=.tuple #[bo ⟨#[]⟩ aF ⟨#[]⟩,j 5]) u8 rfl ⟨by rw[o.out]<;>rfl,?_⟩;exact MS):=h
def akq (h:p:=by
 subst ak;clear HR;go_wp2_with fail;refine(Y.out _).mono ?_;rintro g i ⟨rfl,rfl⟩;go_wp2;exact Of):=h
def Og (h:p:=by
 go_ret;exact⟨rfl,(Q.out _).trans (i.mono (Q.out _).size)⟩):=h
def akr (h:p:=by
 have HR:=l C;clear C e p;go_enter func163,ntmps163;go_wp2_with(go_at_call 160;refine(HR.out _).mono ?_;rintro m u ⟨rfl,i⟩);exact Og):=h
def aks (h:p:=by
 clear p c;go_wp2;go_meet;case rel=>exact⟨by rw[i.out],rfl⟩):=h
def Oh (h:p:=by
 clear k l m c;go_wp2_with fail;refine(aU.out _).mono ?_;rintro z w3 ⟨rfl,i⟩;have y:=aB.out.more i;have B:=y.c5;clear y ai aj ak al am an;go_wp2;go_ret2;exact⟨by rw[J.out];unfold u.aG;simp only[he];rfl,aW.out.trans (i.mono aW.out.size)⟩):=h
def Oi (h:p:=by
 go_wp2;go_ret;exact⟨by rw[q.out];rfl,rfl⟩):=h
def akt (h:p:=by
 go_wp2_with fail;go_ret;exact Od):=h
def Oj (h:p:=by
 go_wp2_with fail;refine ab (by simp[results,results398,go_sem,aF,aG,aH,aI,aJ]) rfl (aE _ _ ⟨rfl,?_,?_⟩)
 . exact nj
 . exact pP):=h
def Ok (h:p:=by
 have bK:bc.cell? ⟨g,3,none⟩=some (j a.V3):=by rw[<-aT];exact aI.c3
 have b7:=ba.cell 5 _ rfl;go_upto_region 18 with fail;go_region_with(first|(go_at_call 395;refine(a9.out _).mono ?_;rintro b8 b9 ⟨rfl,I⟩;have l:=aH.drew.kept (Below.kept I []);have ad:=l.cell 0 _ rfl;have aM:=l.cell 1 _ rfl;have aN:=l.cell 2 _ rfl;have aO:=l.Wb;have aP:=l.lt));all_goals
  have l:=aH.drew.kept (Below.kept I []);have ad:=l.cell 0 _ rfl;have aM:=l.cell 1 _ rfl;have aN:=l.cell 2 _ rfl;obtain⟨-,aO,aP⟩:=id l;have ac:=aI.drew.kept (Below.kept I []);have ae:=bb.drew.trans ((Below.kept I []).mono F);exact F9):=h
def Ol (h:p:=by
 have j:=L.cell 0 _ rfl;exact Ga):=h
def aku (h:p:=by
 have bB:=u.cell 0 _ rfl;have bJ:=u.cell 2 _ rfl;have bd:=cW A.out.drew.c1 (u.drew.cell 4 _ rfl);have bf:=l A.out.drew;go_upto_region 5 with fail;go_region_held3 (fun i=>i.cell? ⟨g,1,none⟩=some (I d)/\i.cell? ⟨n.heap.size,4,none⟩=some (j (b:Int))) (first|exact bd) (first|(go_at_call 429;refine(aJ.out _ bf.out).mono ?_;rintro ca cb ⟨rfl,rfl⟩));all_goals
  clear bd bf;have aa:=l A.out.drew;have y:=u.drew;have W:=U.drew;have J:=T.drew;clear A u U T bB bJ;have bN:=y.cell 0 _ rfl;have bP:=y.cell 1 _ rfl;have bQ:=y.cell 2 _ rfl;have bR:=y.cell 3 _ rfl;have bS:=y.cell 4 _ rfl;have bT:=y.cell 5 _ rfl;cases be
  . exact Ko
  . exact ajB):=h
def akv (h:p:=by
 have bj:=u.cell 0 _ rfl;have bk:=u.cell 2 _ rfl;have aB:=cW A.out.drew.c1 (u.drew.cell 4 _ rfl);have aQ:=l A.out.drew;go_upto_region 5 with fail;go_region_held3 (fun i=>i.cell? ⟨g,1,none⟩=some (I d)/\i.cell? ⟨n.heap.size,4,none⟩=some (j (b:Int))) (first|exact aB) (first|(go_at_call 429;refine(aJ.out _ aQ.out).mono ?_;rintro bO bP ⟨rfl,rfl⟩));all_goals
  clear aB aQ;have aa:=l A.out.drew;have y:=u.drew;have W:=U.drew;have J:=T.drew;clear A u U T bj bk;have bl:=y.cell 0 _ rfl;have bm:=y.cell 1 _ rfl;have bn:=y.cell 2 _ rfl;have bo:=y.cell 3 _ rfl;have bp:=y.cell 4 _ rfl;have bB:=y.cell 5 _ rfl;cases be
  . exact Ko
  . exact ajC):=h
def akw (h:p:=by
 rintro D w3 ⟨rfl,l,j⟩;have y:=K.more j ad;have I:=aa.more j ad;clear aZ a0 a1 a2 a3 a4;have ag:=y.cell 4 _ rfl;go_wp2_with fail;refine(aC.out _ _).mono ?_;rintro D ai ⟨rfl,i⟩;have L:=I.kept (Below.kept i []);have ac:=l.kept (Below.kept i []);have ae:=(Z.trans (j.mono F)).trans ((Below.kept i []).mono F);exact wd):=h
def akx (h:p:=by
 rintro j l ⟨rfl,i⟩;have L:=aa.kept (Below.kept i []);have ac:=N.out.kept (Below.kept i []);have ae:=(Z).trans ((Below.kept i []).mono F);exact wd):=h
def aky (h:p:=by
 have J:=L.cell 1 _ rfl;exact aja):=h
def akz (h:p:=by
 clear c;have l:Hid (b*10+e+1<=10^(i+1)):=by
  show _<=_;have m:=f.out;rw[gc];omega
 clear f;go_wp2;go_round;case rel=>exact⟨i+1,b*10+e,by omega,by go_num,by go_num,l,j⟩
 case measure=>simp[intOf];omega):=h
def akA (h:p:=by
 go_wp2;go_ret2;exact⟨⟨none,(r.out.trans i.out:_=_),by simp,rfl⟩,rfl⟩):=h
def akB (h:p:=by
 clear c hd;go_wp2;go_ret2;exact⟨⟨some b,(r.out.trans i.out.symm:_=_),(by show b<=10000000000;omega),rfl⟩,rfl⟩):=h
def akC (h:p:=by
 go_wp2_with fail;refine(k.out _).mono ?_;exact ex):=h
def akD (h:p:=by
 refine(b.out _).mono ?_;rintro l m ⟨rfl,rfl⟩;go_wp2_with fail;refine(c.out _).mono ?_;exact ex):=h
def Om (h:p:=by
 clear f1;go_enter func366,ntmps366;exact cm):=h
def On (h:p:=by
 go_enter mR,mS;exact ajb):=h
def Oo (h:p:=by
 go_enter mR,mS;go_wp2_with(first|(first|(go_at_call 392;refine o.out.mono ?_;rintro j l ⟨rfl,rfl⟩)|(go_at_call 393;refine N.out.mono ?_;rintro j l ⟨rfl,rfl⟩)|(go_at_call 444;refine w.out.mono ?_;rintro j l ⟨rfl,rfl⟩)|(go_at_call 443;first|((with_reducible refine x.out.mono ?_);rintro j l ⟨rfl,rfl⟩)|((with_reducible refine A.out.mono ?_);rintro j l ⟨rfl,rfl⟩)|((with_reducible refine C.out.mono ?_);rintro j l ⟨rfl,rfl⟩)|((with_reducible refine E.out.mono ?_);rintro j l ⟨rfl,rfl⟩)|((with_reducible refine H.out.mono ?_);rintro j l ⟨rfl,rfl⟩)|((with_reducible refine K.out.mono ?_);rintro j l ⟨rfl,rfl⟩)|((with_reducible refine L.out.mono ?_);rintro j l ⟨rfl,rfl⟩)))|(go_at_call 428;refine(aD.out (az.out F)).mono ?_;rintro j w3 ⟨rfl,p,m⟩));exact Bi):=h
def Bi (h:p:=by
 go_ret2;exact⟨rfl,a.out.Xy (m.mono F) p,m.mono F⟩):=h
def akE (h:p:=by
 as_aux_lemma=>
  exact On):=h
def akF (h:p:=by
 go_wp2_with(go_at_call 378;refine o.out.mono ?_;rintro j l ⟨rfl,rfl⟩);go_ret;exact⟨by rw[f.out]<;>rfl,rfl⟩):=h
def akG (h:p:=by
 refine d.out.mono ?_;exact ex):=h
def Oq (h:p:=by
 go_enter func429,ntmps429;go_wp2_with fail;refine d.out.mono ?_;exact Gb):=h
def Ot (h:p:=by
 go_enter func429,ntmps429;go_wp2_with fail;refine d.out.mono ?_;rintro j l ⟨rfl,rfl⟩;go_wp2_with fail;refine(e.out _).mono ?_;exact ex):=h
def Ou (h:p:=by
 go_enter func429,ntmps429;go_wp2_with fail;refine d.out.mono ?_;rintro m y ⟨rfl,rfl⟩;go_wp2_with fail;refine(e.out _).mono ?_;exact Gb):=h
def akH (h:p:=by
 go_end0;refine⟨rfl,a.out,?_⟩;repeat(first|with_reducible exact Kept.refl _ _|(with_reducible refine Kept.setCell ?_ (.inl F) _)|(with_reducible refine Kept.drew ?_))):=h
def akI (h:p:=by
 rintro J az ⟨rfl,l,G⟩;obtain⟨N,O,a7,ak,am,S,an,W,au,af,aw,ag⟩:av az (g.heap.size+1) 0 0:=sg;go_wp2_with(first|(go_at_call 198;refine(ou _).mono ?_;rintro J cc ⟨rfl,rfl⟩));refine ab (v:=.agg #[j (-1),j 0]) (by simp[results,results199,go_sem,N,O,ak,am,S,an,W,au,af,aw,ag,ei,fb]) rfl ⟨rfl,l.box (g.heap.size+1) ?_ m m,?_⟩
 . exact jJ
 . exact AD):=h
def akJ (h:p:=by
 go_ret2;refine⟨rfl,?_⟩;exact ss):=h
def ai8 (h:p:=by
 go_wp2_with fail;refine ab GQ rfl (aF _ _ ⟨rfl,?_,?_⟩)
 . exact nj
 . exact pP):=h
def ai9 (h:p:=by
 have b:=l (d.out);have c:=l (d.out);have j:((a.Wa+1:Nat):Int)=(a.Wa:Int)+1:=J;have m:((a.ret+1:Nat):Int)=(a.ret:Int)+1:=J;have r:(((a.Wg+1)%4294967296:Nat):Int)=((a.Wg:Int)+1)%4294967296:=J;have D:(((a.We+1)%4294967296:Nat):Int)=((a.We:Int)+1)%4294967296:=J;try rw[r]at b
 try rw[r]at c
 try rw[D]at b
 try rw[D]at c
 try rw[j]at b
 try rw[j]at c
 try rw[m]at b
 try rw[m]at c
 clear q s f1 f2 j m r D t;exact uP):=h
def uP (h:p:=by
 go_enter func243,ntmps243;exact ajc):=h
def F2 (h:p:=by
 clear e f f1 f2 q r s v t o;exact uP):=h
def F3 (h:p:=by
 have j:=B3 h zj c;exact ajJ):=h
def F4 (h:p:=by
 have i:=l (wH h zj c);exact ajN):=h
def F5 (h:p:=by
 have i:=l (wH h (by rw[<-g.out];exact x) c);exact NC):=h
def F6 (h:p:=by
 refine ab (by simp[results,results397,go_sem,ax,ay,az,aA,aB]) rfl (aw _ _ ⟨rfl,?_,?_⟩)
 . exact nj
 . exact pP):=h
def F7 (h:p:=by
 go_wp2_with fail;refine ab (by simp[results,results402,go_sem,B,D,I,J,P]) rfl (O _ _ ⟨rfl,?_,?_⟩)
 . exact nj
 . exact pP):=h
def F8 (h:p:=by
 go_enter func306,ntmps306;exact akb):=h
def F9 (h:p:=by
 go_wp2_with fail;refine ab (by simp[results,results401,go_sem,ad,aM,aN,aO,aP]) rfl (aK _ _ ⟨rfl,?_,?_⟩)
 . exact Ld
 . exact Le):=h
def Ga (h:p:=by
 have l:=L.cell 1 _ rfl;obtain⟨-,z,B⟩:=id L;go_wp2_with fail;refine ab (by simp[results,results242,go_sem,j,l,z,B]) rfl (aq _ _ ⟨rfl,?_,?_⟩)
 . exact nj
 . exact ac.setCell (ch aL) _ |>.setCell (ch aL) _):=h
def aja (h:p:=by
 have R:=L.cell 2 _ rfl;obtain⟨-,W,ad⟩:=id L;go_wp2_with fail;refine ab (by simp[results,results369,go_sem,F,J,R,W,ad]) rfl (au _ _ ⟨rfl,?_,?_⟩)
 . exact Ld
 . exact Le):=h
def ajb (h:p:=by
 go_wp2_with(first|(go_at_call 392;refine o.out.mono ?_;rintro j l ⟨rfl,rfl⟩)|(go_at_call 393;refine N.out.mono ?_;rintro j l ⟨rfl,rfl⟩)|(go_at_call 444;refine w.out.mono ?_;rintro j l ⟨rfl,rfl⟩)|(go_at_call 443;first|((with_reducible refine x.out.mono ?_);rintro j l ⟨rfl,rfl⟩)|((with_reducible refine A.out.mono ?_);rintro j l ⟨rfl,rfl⟩)|((with_reducible refine C.out.mono ?_);rintro j l ⟨rfl,rfl⟩)|((with_reducible refine E.out.mono ?_);rintro j l ⟨rfl,rfl⟩)|((with_reducible refine H.out.mono ?_);rintro j l ⟨rfl,rfl⟩)|((with_reducible refine K.out.mono ?_);rintro j l ⟨rfl,rfl⟩)|((with_reducible refine L.out.mono ?_);rintro j l ⟨rfl,rfl⟩)));go_ret2;exact⟨rfl,a.out,Kept.refl _ _⟩):=h
def Gb (h:p:=by
 rintro j l ⟨rfl,rfl⟩;go_wp2_with fail;refine(k.out _).mono ?_;rintro j l ⟨rfl,rfl⟩;go_wp2_with fail;go_ret;exact⟨rfl,rfl⟩):=h
def ajc (h:p:=by
 go_wp2_with fail;refine(V.out _).mono ?_;rintro l I ⟨rfl,rfl⟩;go_wp2_with fail;refine(W.out _).mono ?_;rintro l I ⟨rfl,rfl⟩;go_wp2_with fail;go_end0;refine⟨rfl,?_,?_⟩
 . first|with_reducible exact b.out|with_reducible exact c.out
 . repeat(first|with_reducible exact Kept.refl _ _|(with_reducible refine Kept.setCell ?_ (.inl F) _))):=h
def R (h:p:=by decide):=h
def ad (h:p:=by simp;omega):=h
def m (h:p:=by omega):=h
def Gc (h:p:=by simp[results,results428,go_sem]):=h
def F (h:p:=by simp):=h
def uR (h:p:=by rw[e];omega):=h
def uS (h:p:=by rw[k];omega):=h
def m4 (h:p:=by simp[A]):=h
def rL (h:p:=by assumption):=h
def pb (h:p:=by simp[results,results344,go_sem,ed]):=h
def aL (h:p:=by simp<;>omega):=h
def Gd (h:p:=by repeat(first|(with_reducible exact Kept.refl _ _)|(with_reducible refine Kept.setCell ?_ (ch (by simp<;>omega)) _)|(with_reducible refine Kept.drew ?_)|(with_reducible refine Kept.alloc ?_ _)|(with_reducible refine Kept.trans ?_ (Below.kept n _)))):=h
def gn (h:p:=by repeat(first|(with_reducible exact Kept.refl _ _)|(with_reducible refine Kept.setCell ?_ (ch (by simp<;>omega)) _)|(with_reducible refine Kept.drew ?_)|(with_reducible refine Kept.alloc ?_ _))):=h
def rM (h:p:=by(try simp);(try rw[eb _ _ _ _ (by simp<;>omega)]);(try simp)):=h
def yZ (h:p:=by simp[results,results345,go_sem]):=h
def uT (h:p:=by simp[results,results343,go_sem]):=h
def Ge (h:p:=by simp[results,results343,go_sem,e]):=h
def Gf (h:p:=by repeat(first|(with_reducible exact Kept.refl _ _)|(with_reducible refine Kept.setCell ?_ (ch (by simp<;>omega)) _)|(with_reducible refine Kept.drew ?_)|(with_reducible refine Kept.alloc ?_ _)|(with_reducible refine Kept.trans ?_ a))):=h
def y5 (h:p:=by simp[results,results377,go_sem]):=h
def y6 (h:p:=by repeat(first|(with_reducible exact Kept.refl _ _)|(with_reducible refine Kept.setCell ?_ (ch (by simp<;>omega)) _)|(with_reducible refine Kept.drew ?_)|(with_reducible refine Kept.alloc ?_ _)|(with_reducible refine Kept.trans ?_ f)|(with_reducible exact f))):=h
def y7 (h:p:=by simp[results,results332,go_sem]):=h
def Gg (h:p:=by simp[results,results260,go_sem,X,V,ei,fb]):=h
def y8 (h:p:=by simp[results,results191,go_sem,T,U,V,ei,fb]):=h
def Gi (h:p:=by simp[results,results131,go_sem,aq,ar,au,ei,fb]):=h
def Gj (h:p:=by simp[results,results131,go_sem,R,T,U,ei,fb]):=h
def y9 (h:p:=by simp[results,results339,go_sem,Q,R,U,V,T,X,ei,fb]):=h
def za (h:p:=by simp[results,results267,go_sem,Z,aa,ap,aq,aD,aE,ai,ay,aJ,aj,ac,ak,ae,al,ag,ao,ah,az,ar,aA,au,aB,aw,aC,ax,aK,aF,aM,aG,aN,aH,aO,aI,ei,fb]):=h
def Gk (h:p:=by simp[results,results267,go_sem,a9,ba,bk,bl,bv,bw,bf,bq,bC,bg,bb,bh,bc,bi,bd,bj,be,br,bm,bs,bn,bt,bo,bu,bp,bD,bx,bE,bz,bF,bA,bG,bB,ei,fb]):=h
def zb (h:p:=by repeat(first|(with_reducible exact b.out)|(with_reducible refine E.alloc ?_ _)|(with_reducible refine E.drew ?_))):=h
def pc (h:p:=by simp[Value.oneCell']):=h
def pd (h:p:=by simp[results,results419,go_sem,ak,am,an,ao,ap,aq]):=h
def Gl (h:p:=by first|rw[g.out,ah.out,T.out,Int.natCast_add]|rw[g.out,T.out,Int.natCast_add]):=h
def ki (h:p:=by simp[results,results206,go_sem,aO,b,c]):=h
def zc (h:p:=by simp[results,results207,go_sem,aO,c,d]):=h
def Gn (h:p:=by simp[results,results138,go_sem,aO,g,h]):=h
def Gp (h:p:=by simp[results,results139,go_sem,y0,y1,y2,y3,y4,p]):=h
def Gq (h:p:=by rw[show(a.V7 (a9 k f d).2).b=(a9 k f d).2 from rfl,aA];exact p.2 v):=h
def Gr (h:p:=by have:=Int.natCast_nonneg (q*256^d);exact Int.le_trans (by decide) this):=h
def Gs (h:p:=by have:q*256^d<=w+q*256^d:=Nat.le_add_left _ _;have i:q*256^d<4294967296:=bJ this A;generalize q*256^d=Z at i;omega):=h
def uU (h:p:=by rw[w4,o.out];rfl):=h
def uV (h:p:=by rw[h];exact BA b #[j 0,j 0,j 0,j 0,j 0,j 0,j 0,j 0,j 0,j 0,j 0,j 0,j 0,j 0,j 0,j 0,j 0,j 0,j 0,j 0,j 0,j 0,j 0] 71):=h
def uW (h:p:=by rw[w4,h]):=h
def uX (h:p:=by rw[o.out];simp[fq,Value.oneCell']):=h
def pe (h:p:=by rw[d];rfl):=h
def uY (h:p:=by rw[h];rfl):=h
def Gt (h:p:=by(repeat(first|(with_reducible exact Kept.refl _ _)|(with_reducible refine Kept.setCell ?_ (ch (by simp<;>omega)) _)|(with_reducible refine Kept.drew ?_)|(with_reducible refine Kept.drewN ?_ _)|(with_reducible refine Kept.alloc ?_ _)))):=h
def uZ (h:p:=by simp[results,results133,go_sem,ei,fb]):=h
def u0 (h:p:=by simp[results,results81,go_sem, *]):=h
def cn (h:p:=by dsimp only;decide):=h
def zd (h:p:=by rw[C.jn _ _ (by simpa using n)];omega):=h
def Gu (h:p:=by rw[B ⟨rfl,Z.out⟩];simp):=h
def Gv (h:p:=by simp[results,results157,go_sem,n,o,p,q,r,s]):=h
def Gx (h:p:=by simp[results,results117,go_sem,e,f,g,h,k,l]):=h
def Gy (h:p:=by have:(2:Nat)^16=65536:=(by decide);omega):=h
def ze (h:p:=by intro m j;simp at j|-;omega):=h
def m5 (h:p:=by simp[results,results37,go_sem, *]):=h
def u1 (h:p:=by simp[s2,sR,tI,tl,Value.oneCell']):=h
def ci (h:p:=by kernel_rfl):=h
def Gz (h:p:=by repeat(first|(with_reducible exact f.out)|(with_reducible refine E.alloc ?_ _)|(with_reducible refine E.drew ?_))):=h
def hE (h:p:=by simp[aN.WV]):=h
def rN (h:p:=by simpa using p):=h
def jB (h:p:=by simpa using a):=h
def GA (h:p:=by intro i g;simp at g;subst g;rfl):=h
def GB (h:p:=by rw[(nX a g k).2.2];omega):=h
def zf (h:p:=by have:=w.out;omega):=h
def u2 (h:p:=by simp[results,results355,go_sem,ds,bo,aF]):=h
def u4 (h:p:=by simp[results,results356,go_sem,ds,bo,aF]):=h
def m6 (h:p:=by simp[results,results310,go_sem,ds,eq,bo,aF]):=h
def GC (h:p:=by rw[k];simp[ByteArray.size];omega):=h
def zg (h:p:=by simp[results,results222,go_sem,eq,bo,aF,ag,ah,ai,aj,ak,al,am,an,ao,ap]):=h
def u6 (h:p:=by rw[q.out.2,G]):=h
def u7 (h:p:=by rw[q.out.2,<-bE.out];exact aZ):=h
def u8 (h:p:=by simp[results,results152,go_sem,kU,bo,aF,eL]):=h
def u9 (h:p:=by simp[results,results152,go_sem,kU,bo,aF,eL,y0,y1,y2,y3,y4,bF,bG,bH,bI,bJ]):=h
def va (h:p:=by simp;have:=bK.out;omega):=h
def zh (h:p:=by have:=t.s1;omega):=h
def iX (h:p:=by simp[results,results317,go_sem,bC,aF,y0,y1,y2,y3,y4,G,H,I,J,N,O,P,Q,R,S,T,V,X,Y,Z,aa,ac,ae,af]):=h
def rO (h:p:=by simp[results,results235,go_sem,bC,aF,am,an,ao,ap,ar,au,av,aw,ax,ay,az,aA,aG,aH,aI,aJ,aK,aL,aM,aN,aO,aP,aR,aS]):=h
def pf (h:p:=by simp[results,results165,go_sem,bC,aF,I,J,N,O,P,Q,S,T,V,W,X,Y,ay,az,aA,aD,aE,aG,aH,aI,aJ,aK,aL,aM]):=h
def rP (h:p:=by first|exact aB _|omega|simp):=h
def rQ (h:p:=by first|omega|simp):=h
def vb (h:p:=by rw[aj,v,<-k];exact a):=h
def GG (h:p:=by first|(simp;done)|(simp[*];done)|((repeat rw[eb _ _ _ _ (by first|omega|(simp<;>omega))]);first|assumption|(simp;done)|(simp[*];done))):=h
def GH (h:p:=by first|(simp;done)|(simp[*];done)|((repeat rw[eB _ _ _ _ (by first|omega|(simp<;>omega))]);first|(simp;done)|(simp[*];done))):=h
def vc (h:p:=by rw[eb _ _ _ _ (by first|omega|(simp<;>omega))];rw[eb _ _ _ _ (by first|omega|(simp<;>omega))];rw[fJ _ _ _ _ _ (by first|omega|(simp<;>omega))];rfl):=h
def vd (h:p:=by rw[eB _ _ _ _ (by first|omega|(simp<;>omega))];rw[eB _ _ _ _ (by first|omega|(simp<;>omega))];rw[fo _ _ _ _ _ (by first|omega|(simp<;>omega))]):=h
def rR (h:p:=by rw[eb _ _ _ _ (by first|omega|(simp<;>omega))];rw[fJ _ _ _ _ _ (by first|omega|(simp<;>omega))];rfl):=h
def rS (h:p:=by rw[eB _ _ _ _ (by first|omega|(simp<;>omega))];rw[fo _ _ _ _ _ (by first|omega|(simp<;>omega))]):=h
def rT (h:p:=by rw[fJ _ _ _ _ _ (by first|omega|(simp<;>omega))];rfl):=h
def rU (h:p:=by rw[fo _ _ _ _ _ (by first|omega|(simp<;>omega))]):=h
def GI (h:p:=by rw[eb _ _ _ _ (by first|omega|(simp<;>omega))];rw[eb _ _ _ _ (by first|omega|(simp<;>omega))];rw[eb _ _ _ _ (by first|omega|(simp<;>omega))];assumption):=h
def GJ (h:p:=by rw[eB _ _ _ _ (by first|omega|(simp<;>omega))];rw[eB _ _ _ _ (by first|omega|(simp<;>omega))];rw[eB _ _ _ _ (by first|omega|(simp<;>omega))];first|assumption|(simp[*];done)):=h
def aK (h:p:=by first|omega|(simp<;>omega)):=h
def GL (h:p:=by rw[eb _ _ _ _ (by first|omega|(simp<;>omega))];assumption):=h
def GM (h:p:=by rw[eB _ _ _ _ (by first|omega|(simp<;>omega))];first|assumption|(simp[*];done)):=h
def zi (h:p:=by first|assumption|(simp[*];done)):=h
def dZ (h:p:=by rw[o.out];rfl):=h
def GN (h:p:=by first|assumption|(rw[fo _ _ _ _ _ (by simp[World.setCell])];done)|(simp;done)|(simp[*];done)):=h
def zj (h:p:=by rw[<-g.out];omega):=h
def GO (h:p:=by simp[results,results133,go_sem,r,A,G,H,B,I,C,J,D,K,E,ei,fb]):=h
def ve (h:p:=by simp;have:=D.size;have:=I.lt;omega):=h
def GP (h:p:=by simp[results,results310,go_sem,ds,eq,bo,aF,m,u,y,z,B,D,K,L]):=h
def GQ (h:p:=by simp[results,results400,go_sem,B,D,I,J,M]):=h
end Go.Proofs.YtmlgonbhoknoiabGreatDoor
