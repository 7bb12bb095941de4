import Derived.BigQuiet
import Derived.BigRegion
import Derived.Carry
import Derived.ChangeOld
import Derived.Deep.AppendLies
import Derived.Deep.CutBlock
import Derived.Deep.CutRange
import Derived.Deep.DeepCutAuto
import Derived.Deep.DrawnRows
import Derived.Deep.Light
import Derived.Deep.MidRow
import Derived.Deep.QuietTactic
import Derived.Deep.RegionHeld3
import Derived.Deep.RegionWith
import Derived.Deep.Slices
import Derived.JoinedOf
import Derived.LaidMore
import Derived.Laws.BytesArg
import Derived.Laws.Concat
import Derived.Laws.IdiomCopy
import Derived.Lib.IndexBytes
import Derived.Lib.ItoaLen
import Derived.Lib.ItoaMem
import Derived.Lib.LaidTab
import Derived.Lib.Strings
import Derived.OpenShut
import Derived.ProofKit
import Derived.SevenTiedAt
import Derived.Shelf.LaysM
import Derived.Shelf.Strconv.Itoa0
import Derived.Shelf.Strconv.Itoa1
import Derived.Shelf.Strconv.Itoa2
import Derived.Shelf.Strconv.Itoa3
import Derived.SizedLaws
import Derived.Stop.Joined
import Derived.Test.YtmlgonbhoknoiaaGreatDoorProg
import Derived.WalkKit
import Derived.WalkLawsBesides
import Derived.WalkSmall
set_option linter.all false
namespace Go.Proofs.YtmlgonbhoknoiaaGreatDoor
open Go.RowKit Go.Proofs.Tryz
abbrev D :=World
abbrev K :=ByteArray
abbrev L :=UInt8
abbrev G {a:Type}[LT a][OfNat a 4294967296](b:a):Prop:=b<4294967296
def z := @if_neg
def B := @if_pos
def ac := @bodyPost_ret
def aq := @Below.refl
def aB := @Nat.le_refl
def aR := @Nat.lt_of_lt_of_le
def aV := @decide_eq_false
def bb := @beq_iff_eq
def bd := @decide_eq_true
def bf := @Below.setCell
def bi := @cond_false
def bl := @Below.alloc
def br := @Calls.quiet_of_same
def bL := @Nat.lt_of_le_of_lt
def bM := @Prod.mk.injEq
def b0 := @World.cell?_setCell_other
def b5 := @beq_eq_false_iff_ne
def b6 := @Option.some.injEq
def ci := @Or.inr
def cj := @List.all_eq_true
def cv := @cond_true
def cC := @decide_eq_true_eq
def cR := @Bool.or_eq_true
def cS := @if_false
def cX := @Bool.and_eq_true
def cY := @Nat.pow_le_pow_right
def cZ := @And.intro
def c9 := @List.length_cons
def dd := @Nat.testBit_and
def dl := @Nat.add_zero
def dr := @Option.some.inj
def ds := @Int.toNat_natCast
def dD := @List.mem_cons
def dQ := @Array.length_toList
def dZ := @Bool.eq_iff_iff
def eh := @Nat.zero_add
def ei := @Bool.false_eq_true
def ej := @Nat.ne_of_lt
def eQ := @List.drop_eq_nil_of_le
def eR := @List.not_mem_nil
def eS := @or_false
def fa := @List.getElem?_eq_getElem
def fb := @Nat.ne_of_gt
def fl := @Nat.mul_comm
def fm := @ByteArray.size_append
def fE := @Nat.le_trans
def fF := @Nat.testBit_or
def fG := @Below.drew
def gc := @Nat.mod_lt
def gd := @Nat.pow_succ
def gf := @List.getElem_mem
def gg := @and_true
def gh := @Nat.mod_two_eq_zero_or_one
def gi := @not_or
def gj := @wp_region_lit
def gl := @wpList_store_mid
def gm := @wpList_nil
def gn := @Nat.le_of_lt
def gO := @Nat.and_le_left
def gP := @Nat.div_div_eq_div_mul
def gQ := @Tryz.underlying64
def gR := @Option.map_some
def gS := @List.nodup_cons
def gT := @List.length_map
def hx := @Nat.eq_of_testBit_eq
def hy := @info_parts
def hz := @Or.inl
def hA := @Nat.mul_assoc
def hB := @Int.tdiv_eq_ediv_of_nonneg
def hC := @Exists.intro
def hD := @ntmps352
def h4 := @Bool.true_and
def h5 := @Tryz.underlying9
def h6 := @Int.eq_ofNat_of_zero_le
def h7 := @List.length_drop
def h8 := @func310
def h9 := @ntmps310
def iP := @Int.tmod_eq_emod_of_nonneg
def iQ := @Nat.and_le_right
def iR := @List.nodup_nil
def iS := @func351
def iT := @ntmps351
def jq := @Bool.false_and
def jr := @Nat.mul_add
def js := @List.drop_eq_getElem_cons
def jt := @List.drop_zero
def ju := @Int.le_refl
def jv := @World.cell?_setCell_same
def jw := @Nat.lt_trans
def jx := @Eq.symm
def j7 := @Nat.mul_le_mul_right
def j8 := @wpList_append_own
def j9 := @World.rangeAt_setCells_same
def ka := @List.setIfInBounds_toArray
def kb := @List.set_cons_zero
def kc := @List.set_cons_succ
def lp := @Nat.two_pow_pos
def lq := @Nat.pow_zero
def lr := @Bool.and_false
def ls := @List.drop_drop
def ln := @Nat.div_le_self
def lo := @World.frozen?_setCell
def mL := @Nat.testBit_mod_two_pow
def mM := @Nat.testBit_eq_decide_div_mod_eq
def mN := @Int.mul_assoc
def mO := @Int.mul_sub
def mP := @List.length_take
def mQ := @List.length_append
def mR := @Lib.toList_data
def mS := @List.getElem_set
def mT := @func415
def mU := @ntmps415
def mV := @func344
def mW := @ntmps344
def mX := @decide_eq_false_iff_not
def mY := @Nat.succ_pos
def ou := @Nat.div_one
def ov := @decide_false
def ow := @Nat.pow_add
def ox := @Bool.not_eq_true'
def oy := @UInt8.toNat_inj
def oz := @Tryz.underlying5
def oA := @Int.emod_nonneg
def oB := @func428
def oC := @ntmps428
def oD := @List.append_assoc
def oE := @List.getElem?_drop
def oF := @List.getElem?_eq_some_iff
def oG := @Int.toNat_of_nonneg
def oH := @Nat.mul_one
def oI := @ntmps345
def oJ := @func431
def oK := @ntmps431
def oL := @func133
def oM := @ntmps133
def oN := @Nat.one_mul
def oO := @Bool.or_false
def oP := @false_and
def oQ := @func419
def oR := @ntmps419
def oS := @Nat.zero_mul
def oT := @Nat.zero_testBit
def oU := @List.drop_succ_cons
def qY := @List.getElem?_map
def qZ := @Nat.add_comm
def q0 := @Nat.max_eq_right
def q1 := @Nat.max_eq_left
def q2 := @Nat.mul_zero
def q3 := @Nat.mod_one
def q4 := @Array.getElem?_eq_some_iff
def q5 := @Int.mul_add
def q6 := @Nat.and_two_pow_sub_one_eq_mod
def q7 := @List.getD_eq_getElem?_getD
def q8 := @results_none
def q9 := @Bool.not_not
def ra := @wpList_load_mid
def rb := @Tryz.underlying71
def rc := @Bool.and_true
def re := @Bool.and_comm
def rf := @Prod.ext
def rg := @wpAnyH_take
def rh := @List.mem_cons_of_mem
def ri := @World.ownsRow_made
def rj := @List.getElem_append
def tP := @Nat.sub_self
def tQ := @run_convert_bytes_arg
def tR := @Int.emod_add_mul_ediv
def tS := @Int.emod_eq_of_lt
def tT := @List.map_cons
def tU := @Int.emod_lt_of_pos
def tV := @List.getElem?_append_left
def tW := @List.getElem?_append_right
def tX := @World.frozen?_setCells
def tY := @Nat.testBit_two_pow
def tZ := @List.getElem?_eq_none
def ua := @run_slice_string_from_if
def ub := @Option.getD_some
def uc := @Nat.mul_le_mul
def ud := @IntKind.wrap_i64
def ue := @Nat.pos_of_ne_zero
def uf := @Int.sub_mul
def ug := @Int.add_mul
def uh := @run_makeSlice
def ui := @Addr.add_mid
def uj := @Nat.pow_succ'
def uk := @Int.emod_two_eq
def ul := @Bool.false_or
def um := @yieldsIf_load_mid
def un := @wpAnyH_ready
def uo := @AllReadyH.cons
def up := @AllReadyH.nil
def uq := @List.mem_of_mem_drop
def ur := @not_false_eq_true
def us := @List.getElem?_cons_zero
def yc := @Nat.div_eq_of_lt
def yd := @Nat.add_mul_div_right
def ye := @List.all_cons
def yf := @Nat.mul_le_mul_left
def yg := @Nat.mod_eq_of_lt
def yh := @List.length_set
def yi := @World.cell?_setCells_out
def yj := @List.eq_nil_of_length_eq_zero
def yk := @Lib.extract_to_end
def yl := @Int.ediv_ediv_of_nonneg
def ym := @Int.natAbs_tdiv
def yn := @BitVec.toNat_ofInt
def yo := @Nat.or_lt_two_pow
def yp := @BitVec.toNat_and
def yq := @Nat.xor_lt_two_pow
def yr := @Nat.testBit_two_pow_sub_succ
def ys := @Int.natCast_mul
def yt := @List.getElem?_set_ne
def yu := @run_copy_cells
def yv := @Nat.and_comm
def yw := @Nat.and_assoc
def yx := @List.take_of_length_le
def yy := @List.any_cons
def yz := @decide_eq_decide
def yA := @List.mem_singleton
def yB := @ByteArray.append_assoc
def yC := @List.length_nil
def FE := @List.take_succ_eq_append_getElem
def FF := @List.getElem?_take_of_lt
def FG := @Classical.byContradiction
abbrev j (a:Int):Value:=.int .i64 a
abbrev I (a:Nat):Value:=.pointer (some ⟨a,0,none⟩)
abbrev al (d:D)(a b:Nat)(c:Value):Prop:=d.cell? ⟨a,b,none⟩=some c
abbrev dY (c:D)(a:Nat):Prop:=∀b,c.frozen? ⟨a,b,none⟩=false
def y {c:Type}(a:c):∃b,b=a:=⟨_,rfl⟩
def fH {c:Type}(a:c):∃b,a=b:=⟨_,rfl⟩
def ce {a b:Nat}(c:a<b):a<b/\a<b+1/\¬a=b+1/\a<b+1+1/\¬a=b+1+1/\a<b+1+1+1/\¬a=b+1+1+1/\a<b+1+1+1+1/\¬a=b+1+1+1+1:=by omega
abbrev A2 (a b:Nat):Prop:=a<b/\a<b+1/\¬a=b+1/\a<b+1+1/\¬a=b+1+1/\a<b+1+1+1/\¬a=b+1+1+1/\a<b+1+1+1+1/\¬a=b+1+1+1+1
abbrev av (b:D)(a:Nat)(d e:Int):Prop:=b.cell? ⟨a,0,none⟩=some (.int .i64 d)/\b.cell? ⟨a,1,none⟩=some (.int .i64 e)/\(∀c,b.frozen? ⟨a,c,none⟩=false)/\A2 a b.heap.size
abbrev a8 (b:D)(a:Nat)(d e f g h i:Int):Prop:=b.cell? ⟨a,0,none⟩=some (.int .i64 d)/\b.cell? ⟨a,1,none⟩=some (.int .i64 e)/\b.cell? ⟨a,2,none⟩=some (.int .i64 f)/\b.cell? ⟨a,3,none⟩=some (.int .i64 g)/\b.cell? ⟨a,4,none⟩=some (.int .i64 h)/\b.cell? ⟨a,5,none⟩=some (.int .i64 i)/\(∀c,b.frozen? ⟨a,c,none⟩=false)/\A2 a b.heap.size
variable {p:Prop}
abbrev O (e:Nat)(c:Array Value)(r:Value)(a:D):Prop:=Calls prog e c a fun d b=>d=.returned r/\b=a
abbrev aa (e:Nat)(c:Array Value)(r:Value)(a:D):Prop:=Calls prog e c a fun d b=>d=.returned r/\Below a.heap.size a b
def J (h:p:=by omega):=h
def bR (h:p:=by simp[u.bn];omega):=h
def ry (h:p:=by simp[u.blank];omega):=h
def iV (h:p:=by simp[u.cl,u.cH,u.bn];omega):=h
def ew (h:p:=by simp[u.cH];omega):=h
def il (h:p:=by simp[u.dh,u.cl,u.cH,u.bn];omega):=h
def lU (h:p:=by unfold u.cq;rw[z (by omega),z (by omega),z (by omega)]):=h
def K6 (h:p:=by unfold u.cq;rw[B (by omega)]):=h
def Mq (h:p:=by unfold u.cq;rw[z (by omega),z (by omega),B (by omega)]):=h
def Nr (h:p:=by unfold u.cq;rw[z (by omega),B (by omega)]):=h
def bN (h:p:=by simp):=h
def Gi (h:p:=by unfold u.dw;rw[z (by omega)];rfl):=h
def ke (h:p:=by exact cY R m):=h
def cM (h:p:=by decide):=h
def alq (h:p:=by exact j7 _ a):=h
def rw (h:p:=by exact eQ F):=h
def GQ (h:p:=by exact yj (by simpa using d)):=h
def yZ (h:p:=by rw[mX];omega):=h
def jz (h:p:=by rw[bb];omega):=h
def gV (h:p:=by rw[b5];omega):=h
def uX (h:p:=by exact fun u j=>(h.lt u j).1):=h
def M (h:p:=by simp;omega):=h
def Hb (h:p:=by have:=xl (a.data.toList.drop b);simp at this;exact this):=h
def pd (h:p:=by exact fun l=>t l):=h
def uY (h:p:=by exact(o.alloc W _).grown m ad X):=h
def Hm (h:p:=by rw[c.out];exact cY R i):=h
def za (h:p:=by rw[Int.neg_tdiv];omega):=h
def u1 (h:p:=by first|(simp;done)|(simp;omega)):=h
def kf (h:p:=by exact ln _ _):=h
def ie (h:p:=by show _=_;omega):=h
def kg (h:p:=by rw[hB (by omega)];omega):=h
def fc (h:p:=by rw[iP (by omega)];omega):=h
def HL (h:p:=by exact uc m h):=h
def zo (h:p:=by exact lp _):=h
def zq (h:p:=by exact cY (n:=2) R (show a%32<=31 by omega)):=h
def vf (h:p:=by unfold am;omega):=h
def ij (h:p:=by rw[dZ];simp;omega):=h
def gX (h:p:=by rw[dZ];simp):=h
def Ib (h:p:=by simp[f1]):=h
def iZ (h:p:=by simp[d]):=h
def eT (h:p:=by simp[c]):=h
def lS (h:p:=by simp[f]):=h
def ID (h:p:=by show _=_;rw[<-b,dZ];simp;omega):=h
def vj (h:p:=by unfold a1;simp;omega):=h
def IS (h:p:=by rw[hS,mP,h7];omega):=h
def vk (h:p:=by exact fun D=>d D.symm):=h
def ki (h:p:=by unfold dx;simp):=h
def zK (h:p:=by exact l (f.out.setCell (.inl F) _)):=h
def zP (h:p:=by rw[yh];exact H):=h
def Ji (h:p:=by show g=c;rw[n.out,show b-i=0 by omega];rfl):=h
def kk (h:p:=by unfold eP;simp):=h
def kl (h:p:=by simp[b]):=h
def JE (h:p:=by show d=_;rw[e.out,show a.size-i=0 by omega];rfl):=h
def gY (h:p:=by kernel_rfl):=h
def fJ (h:p:=by rw[dZ];first|(simp;done)|(simp;omega)):=h
def lT (h:p:=by exact(aq _ _).alloc (aB _) _):=h
def pB (h:p:=by simpa using g):=h
def J5 (h:p:=by exact l (fun y j=>⟨j.os.trans c.out.os,j.tape.trans c.out.tape,j.output.trans c.out.output,fE c.out.size j.size,fun w m=>(j.block w (aR m c.out.size) ad).trans (c.out.block w m)⟩)):=h
def vw (h:p:=by exact p6 F):=h
def g0 (h:p:=by simp[b]):=h
def Km (h:p:=by exact(j.cell r.out.lt).trans K):=h
def Kw (h:p:=by intro j;rw[j]at s;unfold ab at s;simp at s;omega):=h
def KC (h:p:=by intro j;rw[j]at t;unfold ab at t;simp at t;omega):=h
def KM (h:p:=by exact l (fun j=>W.out (b+64) _ m (ae j))):=h
def KV (h:p:=by exact l (fun j=>W.out (b+128) _ m (af j))):=h
def K2 (h:p:=by exact l (fun j p=>W.out (b+192) _ m (ag j p))):=h
def Aq (h:p:=by unfold gD;split<;>omega):=h
def pF (h:p:=by exact((Kept.refl _ _).alloc _).drew):=h
def Ln (h:p:=by have:=h.out.nodup;simp at this|-;omega):=h
def Ax (h:p:=by exact Nat.pow_pos R):=h
def LC (h:p:=by rw[ow,gd,hA]):=h
def pG (h:p:=by exact Nat.one_le_two_pow):=h
def LV (h:p:=by exact fun g=>l ((cP (n:=49) R).2 g)):=h
def g1 (h:p:=by assumption):=h
def AA (h:p:=by exact yf _ n):=h
def Ml (h:p:=by rw[C.jk _ _ (by simp)];exact A):=h
def vG (h:p:=by rw[pQ];omega):=h
def vI (h:p:=by exact Int.mul_nonneg m m):=h
def AG (h:p:=by rw[b];exact ya _ _ _ d m):=h
def AK (h:p:=by rw[a];show _=_;simp):=h
def dG (h:p:=by rw[ud];omega):=h
def pH (h:p:=by rw[a];rfl):=h
def ni (h:p:=by simp[h]):=h
def Nd (h:p:=by exact fun W g=>aiX h k b A c L W g):=h
def b7 (h:p:=by exact l (a.out.alloc _)):=h
def No (h:p:=by unfold cs;rw[k,z (by simp),B l]):=h
def Ns (h:p:=by unfold cs;rw[k,z (by simp),z l]):=h
def vO (h:p:=by exact bm c 2147483648 m m):=h
def vP (h:p:=by unfold ab;simp at d|-;omega):=h
def AV (h:p:=by exact aR F f.size):=h
def pI (h:p:=by exact(b.cell aL aL).trans (by first|(simp;done)|(simp[*];done)|(rw[ec _ _ _ _ (by simp<;>omega)];first|assumption|(simp;done)|(simp[*];done)))):=h
def AW (h:p:=by exact fun j=>(b.frozen aL aL).trans (by first|(simp;done)|(simp[*];done)|(rw[eB _ _ _ _ (by simp<;>omega)];first|(simp;done)|(simp[*];done)))):=h
def fo (h:p:=by exact aR aL b.size):=h
def pJ (h:p:=by exact l ((f.alloc _).alloc _)):=h
def eU (h:p:=by exact(b.cell aL aL).trans Gk):=h
def jI (h:p:=by exact fun j=>(b.frozen aL aL).trans Gl):=h
def lu (h:p:=by exact(n.cell aL aL).trans Gk):=h
def uu (h:p:=by exact fun j=>(n.frozen aL aL).trans Gl):=h
def mZ (h:p:=by exact aR aL n.size):=h
def cD (h:p:=by exact l ((c.out.alloc _).alloc _)):=h
def FW (h:p:=by exact l (((p.out.alloc _).alloc _).alloc _)):=h
def F1 (h:p:=by exact(b.cell aL aL).trans uO):=h
def F9 (h:p:=by exact(b.cell aL aL).trans rr):=h
def lv (h:p:=by exact(b.cell aL aL).trans ru):=h
def Gj (h:p:=by exact fun j=>(b.frozen aL aL).trans rv):=h
def Gm (h:p:=by exact(n.cell aL aL).trans Gn):=h
def Gw (h:p:=by exact(n.cell aL aL).trans uO):=h
def Gx (h:p:=by exact(n.cell aL aL).trans rr):=h
def Gy (h:p:=by exact l (fun W=>by have:=tJ a c m m W;rw[show(decide ((c:Int)=4/\((a:Int)=33554432\/(a:Int)=33570816\/(a:Int)=33570820\/(a:Int)=33603576\/(a:Int)=33603580)))=true from i]at this;exact this)):=h
def Gz (h:p:=by exact l (fun W=>by have:=tJ a c m m W;rw[show(decide ((c:Int)=4/\((a:Int)=33554432\/(a:Int)=33570816\/(a:Int)=33570820\/(a:Int)=33603576\/(a:Int)=33603580)))=false from o]at this;exact this)):=h
def GA (h:p:=by exact l (fun W=>by have:=x4 a c m m W;rw[show(decide ((c:Int)=1/\((a:Int)=268435456\/(a:Int)=268435457\/(a:Int)=268435458\/(a:Int)=268435461\/(a:Int)=268435463)))=true from g]at this;exact this)):=h
def yT (h:p:=by exact E.kept yK h):=h
def GB (h:p:=by exact l (fun W=>by have:=tJ b c m m W;rw[show(decide ((c:Int)=4/\((b:Int)=33554432\/(b:Int)=33570816\/(b:Int)=33570820\/(b:Int)=33603576\/(b:Int)=33603580)))=false from k]at this;exact this)):=h
def GC (h:p:=by exact l (fun W=>by have:=x4 b c m m W;rw[show(decide ((c:Int)=1/\((b:Int)=268435456\/(b:Int)=268435457\/(b:Int)=268435458\/(b:Int)=268435461\/(b:Int)=268435463)))=false from n]at this;exact this)):=h
def lw (h:p:=by exact(b.cell aK aK).trans ru):=h
def GD (h:p:=by exact fun aR=>(b.frozen aK aK).trans rv):=h
def o0 (h:p:=by exact aR aK b.size):=h
def yU (h:p:=by exact l (BB b ad)):=h
def GF (h:p:=by exact z.more (G:=[a.heap.size]) (Kept.Xh _ (.inl F) _ _ _ (Kept.refl _ _)) ad ad ad ad ad):=h
def GG (h:p:=by exact Kept.Xh _ (.inr (aB _)) _ _ _ (((Kept.refl _ _).alloc _).trans b)):=h
def o1 (h:p:=by exact o 0 _ rfl):=h
def o2 (h:p:=by exact o 1 _ rfl):=h
def o3 (h:p:=by exact o 2 _ rfl):=h
def o4 (h:p:=by exact o 3 _ rfl):=h
def o5 (h:p:=by exact o 4 _ rfl):=h
def o6 (h:p:=by exact o 5 _ rfl):=h
def lx (h:p:=by exact(e.cell aK aK).trans Gq):=h
def GH (h:p:=by exact fun j=>(e.frozen aK aK).trans Gr):=h
def gU (h:p:=by exact aR aK e.size):=h
def ly (h:p:=by exact(e.cell aK aK).trans ru):=h
def GI (h:p:=by exact fun j=>(e.frozen aK aK).trans rv):=h
def yV (h:p:=by exact l (aaJ (World.there_alloc (BB b ad) _) ad e ad)):=h
def GJ (h:p:=by exact S.more (G:=[a.heap.size]) (Kept.Xh _ (.inl F) _ _ _ (Kept.refl _ _)) ad ad ad ad ad):=h
def GK (h:p:=by exact Kept.Xh _ (.inr (aB _)) _ _ _ (((((Kept.refl _ _).alloc _).trans b).alloc _).trans e)):=h
def uR (h:p:=by exact cY R aa):=h
def uS (h:p:=by rw[bb];exact c1):=h
def uT (h:p:=by rw[b5];exact c1):=h
def lz (h:p:=by rw[pQ];exact d):=h
def lA (h:p:=by simpa using h):=h
def lB (h:p:=by have:=l.out;omega):=h
def fn (h:p:=by have:=a.size;simp at this;omega):=h
def yW (h:p:=by rw[n _ _ (by omega),l _ _ (by simp;omega)];simp):=h
def o7 (h:p:=by rw[n _ _ (by omega),l _ _ (by simp)];simp):=h
def alr (h:p:=by have:=a.size;omega):=h
def GL (h:p:=by exact((((aq _ _).alloc (aB _) _).alloc F _)).trans (a.mono ad)):=h
def GM (h:p:=by have:=f.size;simp at this;omega):=h
def GN (h:p:=by exact(i.out.alloc m _).trans (f.mono ad)):=h
def ia (h:p:=by exact(h.cell F).trans F):=h
def GO (h:p:=by exact fun j=>(h.frozen F).trans F):=h
def o8 (h:p:=by exact(q _ _ F).trans F):=h
def GP (h:p:=by rw[a.out];show _=_;rw[z (by omega)]):=h
def m3 (h:p:=by rw[g];exact fun _ _ j=>j):=h
def o9 (h:p:=by exact((Kept.refl _ _).alloc _).alloc _):=h
def GR (h:p:=by exact l ⟨N.out.drew.c2,S.drew.cell 2 _ rfl,S.drew.cell 4 _ rfl,by simpa using Y⟩):=h
def yX (h:p:=by rw[dZ];simp only[cC];omega):=h
def GS (h:p:=by rw[ax,xu]):=h
def GU (h:p:=by exact l (fun W=>by have:=fD c W;rw[show decide (5<=c/\c<=10)=true by simp<;>omega]at this;exact this)):=h
def yY (h:p:=by exact l (fun W=>by have:=fD b W;rw[show decide (5<=b/\b<=10)=false by simp<;>omega]at this;exact this)):=h
def lC (h:p:=by unfold aw am;omega):=h
def lD (h:p:=by exact l (fun W=>by rw[wZ];exact agd i.op W)):=h
def lE (h:p:=by exact l (fun W=>e0 _ W)):=h
def pa (h:p:=by exact(b.cell aK aK).trans (by rw[BD];rw[ec _ _ _ _ (by first|omega|(simp<;>omega))];rw[fK _ _ _ _ _ (by first|omega|(simp<;>omega))];rfl)):=h
def GV (h:p:=by exact(b.cell aK aK).trans (by rw[BD];rw[fK _ _ _ _ _ (by first|omega|(simp<;>omega))];rfl)):=h
def GW (h:p:=by exact aR C (by rw[show(4294967296:Nat)=256^4 from rfl];exact cY m m)):=h
def uU (h:p:=by rw[r];exact A):=h
def lF (h:p:=by exact(e.cell aK aK).trans (by rw[ec _ _ _ _ (by first|omega|(simp<;>omega))];rw[ec _ _ _ _ (by first|omega|(simp<;>omega))];rw[ec _ _ _ _ (by first|omega|(simp<;>omega))];rw[ec _ _ _ _ (by first|omega|(simp<;>omega))];assumption)):=h
def GX (h:p:=by exact fun j=>(e.frozen aK aK).trans (by rw[eB _ _ _ _ (by first|omega|(simp<;>omega))];rw[eB _ _ _ _ (by first|omega|(simp<;>omega))];rw[eB _ _ _ _ (by first|omega|(simp<;>omega))];rw[eB _ _ _ _ (by first|omega|(simp<;>omega))];first|assumption|(simp[*];done))):=h
def GY (h:p:=by exact(e.cell aK aK).trans (by rw[ec _ _ _ _ (by first|omega|(simp<;>omega))];rw[ec _ _ _ _ (by first|omega|(simp<;>omega))];rw[ec _ _ _ _ (by first|omega|(simp<;>omega))];rw[fK _ _ _ _ _ (by first|omega|(simp<;>omega))];rfl)):=h
def GZ (h:p:=by exact(e.cell aK aK).trans uO):=h
def lG (h:p:=by exact(h.cell aK aK).trans rk):=h
def G0 (h:p:=by exact fun j=>(h.frozen aK aK).trans yR):=h
def lH (h:p:=by exact aR aK h.size):=h
def lI (h:p:=by exact(G.cell aK aK).trans rk):=h
def G1 (h:p:=by exact fun j=>(G.frozen aK aK).trans yR):=h
def G2 (h:p:=by exact aR aK G.size):=h
def G3 (h:p:=by exact l (fun W=>by rw[wZ];exact Fl n (ef i.op) (Int.natCast_nonneg _) (by have b:=Int.ofNat_lt.2 a0;exact b) W)):=h
def lJ (h:p:=by simp[t]):=h
def uV (h:p:=by rw[Nat.pow_mul]):=h
def G4 (h:p:=by exact l (fun W e=>tK d f c o g p 4 m m m n W e)):=h
def G5 (h:p:=by exact l (fun W i=>tL d f c z g p 4 m m m x _ w W i)):=h
def G6 (h:p:=by rw[<-n];unfold hT;congr 1;rw[dZ];simp;omega):=h
def pb (h:p:=by exact l (fun W=>by rw[RY];exact agr i.op W)):=h
def uW (h:p:=by exact l (fun W i=>by have:=oq d f (a.V7 g) o h 4 m m m m W i;rw[show(a.V7 g).b.o.length=g.o.length from rfl,k]at this;exact this)):=h
def y5 (h:p:=by show p+4<=g.o.length;omega):=h
def pc (h:p:=by exact(b.cell aK aK).trans rr):=h
def lK (h:p:=by exact(e.cell aK aK).trans (by rw[ec _ _ _ _ (by first|omega|(simp<;>omega))];rw[ec _ _ _ _ (by first|omega|(simp<;>omega))];assumption)):=h
def G7 (h:p:=by exact fun j=>(e.frozen aK aK).trans (by rw[eB _ _ _ _ (by first|omega|(simp<;>omega))];rw[eB _ _ _ _ (by first|omega|(simp<;>omega))];first|assumption|(simp[*];done))):=h
def G8 (h:p:=by exact(e.cell aK aK).trans rr):=h
def G9 (h:p:=by exact bL gO m):=h
def lL (h:p:=by rw[e];rfl):=h
def ajU (h:p:=by rw[q];simp[DY]):=h
def ajV (h:p:=by exact d 0 _ ea):=h
def ajW (h:p:=by exact d 1 _ ea):=h
def Ha (h:p:=by exact d 2 _ ea):=h
def ajX (h:p:=by exact d 3 _ ea):=h
def als (h:p:=by exact a 4 _ ea):=h
def ajY (h:p:=by exact d 5 _ ea):=h
def ajZ (h:p:=by exact d 6 _ ea):=h
def aj0 (h:p:=by exact d 7 _ ea):=h
def aj1 (h:p:=by exact d 8 _ ea):=h
def aj2 (h:p:=by exact d 9 _ ea):=h
def aj3 (h:p:=by exact d 10 _ ea):=h
def aj4 (h:p:=by exact d 11 _ ea):=h
def aj5 (h:p:=by exact d 12 _ ea):=h
def aj6 (h:p:=by exact d 13 _ ea):=h
def aj7 (h:p:=by exact d 14 _ ea):=h
def aj8 (h:p:=by exact d 15 _ ea):=h
def aj9 (h:p:=by exact d 16 _ ea):=h
def aka (h:p:=by exact d 17 _ ea):=h
def akb (h:p:=by exact d 18 _ ea):=h
def alu (h:p:=by exact a 19 _ ea):=h
def alv (h:p:=by exact a 20 _ ea):=h
def alw (h:p:=by exact a 21 _ ea):=h
def alx (h:p:=by exact a 22 _ ea):=h
def y6 (h:p:=by unfold di;rw[B v]):=h
def lM (h:p:=by unfold a6;split<;>rfl):=h
def jA (h:p:=by exact(e.cell aK aK).trans rk):=h
def Hc (h:p:=by exact fun l=>(e.frozen aK aK).trans yR):=h
def y7 (h:p:=by unfold di;rw[z v]):=h
def lN (h:p:=by exact fk _ m):=h
def Hd (h:p:=by rw[u];by_cases e:3072<=c<;>simp[e]<;>omega):=h
def y8 (h:p:=by unfold hb;rw[B f]):=h
def lO (h:p:=by exact(h.cell aK aK).trans Gq):=h
def He (h:p:=by exact fun j=>(h.frozen aK aK).trans Gr):=h
def pe (h:p:=by exact(h.cell aK aK).trans ru):=h
def Hf (h:p:=by have j:a[i]=66:=(cP (n:=66) R).1 c2;simp[j]):=h
def Hg (h:p:=by exact fun i=>c2 ((cP (n:=66) R).2 i)):=h
def rz (h:p:=by rw[g];rfl):=h
def rA (h:p:=by rw[d];simp[dR]):=h
def rB (h:p:=by rw[h];rfl):=h
def rC (h:p:=by rw[k];rfl):=h
def rD (h:p:=by rw[l];rfl):=h
def rE (h:p:=by rw[m];rfl):=h
def ib (h:p:=by rw[<-t.out.1,<-t.out.2.2.1];first|rfl|simp):=h
def ic (h:p:=by rw[<-t.out.2.1,<-t.out.2.2.2];first|rfl|simp):=h
def dE (h:p:=by exact(Kept.refl _ _).alloc _):=h
def aly (h:p:=by have:=a.size;have:=b.lt;omega):=h
def Hh (h:p:=by unfold a1 at g;simp at g;omega):=h
def Hi (h:p:=by exact(b.cell aK aK).trans (by first|(rw[fK _ _ _ _ _ (by simp[World.setCell])];rfl)|(rw[Vi _ _ _ _ _ _ (by omega)];first|assumption|(simp;done)|(simp[*];done)))):=h
def Hj (h:p:=by exact(h.cell aK aK).trans Gn):=h
def pf (h:p:=by exact(h.cell aK aK).trans uO):=h
def Hk (h:p:=by exact(h.cell aK aK).trans rr):=h
def Hl (h:p:=by exact(i.cell aK aK).trans ru):=h
def pg (h:p:=by unfold bv;exact bd m):=h
def ph (h:p:=by unfold bh;rw[B e]):=h
def Hn (h:p:=by unfold dp;rw[z (by omega),z (by omega),B (by omega)];exact(pR b.V3 a).symm):=h
def jB (h:p:=by unfold bv;simp only[cC];omega):=h
def Ho (h:p:=by unfold bh;rw[z e,B (by omega)]):=h
def pi (h:p:=by simp[w]):=h
def y9 (h:p:=by unfold ed;split<;>rfl):=h
def uZ (h:p:=by rw[t2];simp;omega):=h
def pj (h:p:=by exact PB c.out _ (aB _)):=h
def Hp (h:p:=by exact(Kept.refl _ _).setCell (.inl F) _):=h
def Hq (h:p:=by exact fun i g=>(b0 _ _ _ _ (by first|(simp;done)|(simp;omega))).trans (c.cell j t)):=h
def Hr (h:p:=by exact fun g=>by have:=(k.out.Xs a d).lt _ g;omega):=h
def rF (h:p:=by rw[u];rfl):=h
def u0 (h:p:=by rw[U.out];rfl):=h
def rG (h:p:=by have:=e.out;omega):=h
def rH (h:p:=by rw[<-aj.out,<-c.out];exact e):=h
def rI (h:p:=by rw[w];rfl):=h
def rJ (h:p:=by rw[z];rfl):=h
def rK (h:p:=by rw[F];rfl):=h
def rL (h:p:=by rw[H];rfl):=h
def Hs (h:p:=by have i:=l.out;have j:=E.out;omega):=h
def zb (h:p:=by decide+kernel):=h
def Ht (h:p:=by unfold sizeOf;rw[z (by omega),z (by omega),B (by omega)]):=h
def Hu (h:p:=by rw[x];simpa[ByteArray.size]using C):=h
def pk (h:p:=by exact((aq _ _).alloc F _).alloc F _):=h
def zc (h:p:=by rw[bb]at h|-;exact h.symm):=h
def u2 (h:p:=by rw[e];split<;>rfl):=h
def rM (h:p:=by exact fun l=>(aq _ _).alloc (aB _) _):=h
def Hv (h:p:=by exact fun a=>eb (a:=n) (b:=⟨#[41]⟩) (c:=s) (by rw[q,t];exact he _ [41]) (by rw[q];simp[ByteArray.size];omega) a):=h
def Hw (h:p:=by exact((aq _ _).alloc (aB _) _).drew):=h
def Hx (h:p:=by rw[Z,fa B];rfl):=h
def Hy (h:p:=by rw[ao,fa (by omega)];rfl):=h
def zd (h:p:=by rw[h7];omega):=h
def Hz (h:p:=by rw[<-dl C,ab,aN];rfl):=h
def ze (h:p:=by rw[w];exact afz b):=h
def m4 (h:p:=by rw[<-ag.out]):=h
def HA (h:p:=by have:=nX g m;unfold u.bq;rw[dQ];exact this):=h
def zf (h:p:=by exact fun i=>eb (a:=h) (b:=d) (c:=o) w.symm m i):=h
def zg (h:p:=by rw[w,fm];omega):=h
def gW (h:p:=by simp[b]):=h
def rN (h:p:=by simp[v]):=h
def u4 (h:p:=by rw[dQ];rfl):=h
def HB (h:p:=by exact eQ (by rw[mP];omega)):=h
def HC (h:p:=by exact l (fun i g=>by have:=aO i g;omega)):=h
def u6 (h:p:=by rw[<-I.out]):=h
def zh (h:p:=by exact J.out.alloc J.out.size _):=h
def HD (h:p:=by rw[L,fm];omega):=h
def HE (h:p:=by rw[ao.out];exact aX):=h
def zi (h:p:=by exact(a4.new a b i c).alloc _):=h
def HF (h:p:=by rw[<-dl d,aB,ak];rfl):=h
def iW (h:p:=by exact(h.out.cell ar).trans bb.out):=h
def HG (h:p:=by exact(h.out.cell ar).trans bv.out):=h
def HH (h:p:=by exact(h.out.cell ar).trans bu.out):=h
def HI (h:p:=by exact(h.out.cell ar).trans bw.out):=h
def pl (h:p:=by exact(e.cell F).trans F):=h
def ig (h:p:=by exact(c.cell F).trans F):=h
def lP (h:p:=by exact fun p l=>by simpa using a.lt p l):=h
def rO (h:p:=by exact⟨F1,F1,(by exact fun j=>(b.frozen aL aL).trans uP),ce fo⟩):=h
def rP (h:p:=by exact⟨F9,F9,(by exact fun j=>(b.frozen aL aL).trans rt),ce fo⟩):=h
def rQ (h:p:=by exact⟨lv,lv,Gj,ce fo⟩):=h
def pm (h:p:=by exact⟨Gm,Gm,(by exact fun g=>(n.frozen aL aL).trans Gp),ce mZ⟩):=h
def HJ (h:p:=by exact⟨Gw,Gw,(by exact fun g=>(n.frozen aL aL).trans uP),ce mZ⟩):=h
def HK (h:p:=by exact⟨Gx,Gx,(by exact fun g=>(n.frozen aL aL).trans rt),ce mZ⟩):=h
def iX (h:p:=by exact⟨lw,lw,lw,lw,lw,lw,GD,ce o0⟩):=h
def zj (h:p:=by exact⟨lx,lx,lx,lx,lx,lx,GH,ce gU⟩):=h
def zk (h:p:=by exact⟨ly,ly,ly,ly,ly,ly,GI,ce gU⟩):=h
def HM (h:p:=by exact⟨lv,lv,lv,lv,lv,lv,Gj,ce fo⟩):=h
def m5 (h:p:=by exact⟨pa,pa,pa,pa,pa,pa,(by exact fun j=>(b.frozen aK aK).trans (by rw[BX];rw[eB _ _ _ _ (by first|omega|(simp<;>omega))];rw[fp _ _ _ _ _ (by first|omega|(simp<;>omega))])),ce o0⟩):=h
def lQ (h:p:=by exact⟨GV,GV,(by exact fun j=>(b.frozen aK aK).trans (by rw[BX];rw[fp _ _ _ _ _ (by first|omega|(simp<;>omega))])),ce o0⟩):=h
def u7 (h:p:=by exact⟨lF,lF,lF,lF,lF,lF,GX,ce gU⟩):=h
def pn (h:p:=by exact⟨lF,lF,GX,ce gU⟩):=h
def po (h:p:=by exact⟨GY,GY,(by exact fun j=>(e.frozen aK aK).trans (by rw[eB _ _ _ _ (by first|omega|(simp<;>omega))];rw[eB _ _ _ _ (by first|omega|(simp<;>omega))];rw[eB _ _ _ _ (by first|omega|(simp<;>omega))];rw[fp _ _ _ _ _ (by first|omega|(simp<;>omega))])),ce gU⟩):=h
def pp (h:p:=by exact⟨GZ,GZ,(by exact fun j=>(e.frozen aK aK).trans uP),ce gU⟩):=h
def HN (h:p:=by exact⟨lG,lG,lG,lG,lG,lG,G0,ce lH⟩):=h
def rR (h:p:=by exact⟨lG,lG,G0,ce lH⟩):=h
def rS (h:p:=by exact⟨lI,lI,G1,ce G2⟩):=h
def ih (h:p:=by exact⟨lw,lw,GD,ce o0⟩):=h
def jC (h:p:=by exact⟨pc,pc,pc,pc,pc,pc,(by exact fun j=>(b.frozen aK aK).trans rt),ce o0⟩):=h
def u8 (h:p:=by exact⟨lK,lK,G7,ce gU⟩):=h
def zl (h:p:=by exact⟨G8,G8,(by exact fun j=>(e.frozen aK aK).trans rt),ce gU⟩):=h
def zm (h:p:=by exact⟨jA,jA,jA,jA,jA,jA,Hc,ce gU⟩):=h
def zn (h:p:=by exact⟨lK,lK,lK,lK,lK,lK,G7,ce gU⟩):=h
def HO (h:p:=by exact⟨lO,lO,lO,lO,lO,lO,He,ce lH⟩):=h
def u9 (h:p:=by exact⟨lO,lO,He,ce lH⟩):=h
def HP (h:p:=by exact⟨pe,pe,pe,pe,pe,pe,(by exact fun j=>(h.frozen aK aK).trans rv),ce lH⟩):=h
def va (h:p:=by exact⟨lI,lI,lI,lI,lI,lI,G1,ce G2⟩):=h
def pq (h:p:=by exact⟨Hi,Hi,(by exact fun j=>(b.frozen aK aK).trans Gs),ce o0⟩):=h
def pr (h:p:=by exact⟨jA,jA,(by exact fun j=>(e.frozen aK aK).trans Gs),ce gU⟩):=h
def vb (h:p:=by exact⟨Hj,Hj,(by exact fun j=>(h.frozen aK aK).trans Gp),ce lH⟩):=h
def vc (h:p:=by exact⟨pf,pf,pf,pf,pf,pf,(by exact fun j=>(h.frozen aK aK).trans uP),ce lH⟩):=h
def vd (h:p:=by exact⟨Hk,Hk,(by exact fun j=>(h.frozen aK aK).trans rt),ce lH⟩):=h
def zp (h:p:=by exact⟨Hl,Hl,(by exact fun j=>(i.frozen aK aK).trans rv),ce (by exact aR aK i.size)⟩):=h
def zr (h:p:=by
 go_enter func327,ntmps327;exact vN):=h
def rT (h:p:=by
 go_enter func251,ntmps251;exact vN):=h
def iY (h:p:=by
 go_enter func326,ntmps326;go_wp2_with(first|(go_at_call 327;refine(sf _ _).mono ?_;rintro s q ⟨rfl,rfl⟩));exact AO):=h
def zs (h:p:=by
 go_enter func357,ntmps357;exact vN):=h
def kh (h:p:=by
 go_enter func309,ntmps309;exact vN):=h
def ii (h:p:=by
 go_enter func308,ntmps308;go_wp2_with(first|(go_at_call 309;refine(xK _ _).mono ?_;rintro t s ⟨rfl,rfl⟩)|(go_at_call 357;refine(Eu _ _).mono ?_;rintro t s ⟨rfl,rfl⟩));exact AO):=h
def m6 (h:p:=by
 clear b;go_enter func448,ntmps448;go_wp2_with(go_at_call 327;refine(sf _ _).mono ?_;rintro p o ⟨rfl,rfl⟩);exact Nc):=h
def m7 (h:p:=by
 clear b;go_enter func411,ntmps411;go_wp2_with(go_at_call 357;refine(Eu _ _).mono ?_;rintro p o ⟨rfl,rfl⟩);exact Nc):=h
def HQ (h:p:=by rw[js (by simpa using b)];rfl):=h
def ve (h:p:=by
 go_enter func440,ntmps440;go_wp2;go_ret2;exact⟨⟨none,(by unfold u.dw;rw[B (by omega)]:_=_),by simp,rfl⟩,rfl⟩):=h
def HS (h:p:=by
 have i:=l (wk h (by rw[<-g.out];exact s) c);clear c;go_wp2;go_ret2;exact⟨⟨none,i,by simp,rfl⟩,rfl⟩):=h
def HT (h:p:=by
 obtain rfl:i=a.size:=by omega
 have hd:a.data.toList.drop a.size=[]:=rw;rw[hd]at c;have j:Hid (some b=d):=c;clear c hd;go_wp2;go_ret2;exact⟨⟨some b,j.out.symm,t,rfl⟩,rfl⟩):=h
def HU (h:p:=by exact⟨0,0,by omega,rfl,rfl,(by decide:0+1<=10^0),v⟩):=h
def HV (h:p:=by
 have j:=BI h yS c;rw[<-g.out]at j;clear c;have l:Hid (b*16+e+1<=16^(i+1)):=by
  show _<=_;have m:=o.out;rw[gd];omega
 clear o;go_wp2;go_round;case rel=>exact⟨i+1,b*16+e,by omega,by go_num,by go_num,l,j⟩
 case measure=>exact a5):=h
def HW (h:p:=by exact⟨0,0,by omega,rfl,rfl,(by decide:0+1<=16^0),A⟩):=h
def HX (h:p:=by
 go_ret;exact⟨by rw[e.out];rfl,rfl⟩):=h
def HY (h:p:=by
 clear b f;go_wp2_with(go_at_call 326;refine(sg _ _).mono ?_;rintro l j ⟨rfl,rfl⟩);go_round;case rel=>exact⟨i+1,by omega,by go_num,m⟩
 case measure=>exact a5):=h
def rU (h:p:=by
 go_wp2;exact HX):=h
def m8 (h:p:=by
 go_wp2;exact lR):=h
def zt (h:p:=by
 go_ret;exact⟨by rw[b.out];rfl,rfl⟩):=h
def HZ (h:p:=by
 go_round;case rel=>exact⟨i+1,by omega,by go_num,b⟩
 case measure=>exact a5):=h
def H0 (h:p:=by
 obtain rfl:i=a.size:=by omega
 have j:a.data.toList.drop a.size=[]:=rw;rw[j]at b;have e:Hid (g=true):=b;clear b j;exact rU):=h
def lR (h:p:=by
 go_ret;exact⟨rfl,rfl⟩):=h
def vg (h:p:=by exact⟨0,by omega,rfl,c⟩):=h
def H1 (h:p:=by
 constructor
 . intro b;apply oy.1;simp;omega
 . intro b;subst b;simp;omega):=h
def zu (h:p:=by
 go_enter func404,ntmps404;go_wp2_with fail;refine(Ot a k _).mono ?_;exact H2):=h
def H2 (h:p:=by
 rintro m l ⟨⟨j,i,n,rfl⟩,rfl⟩;exact akr):=h
def H3 (h:p:=by
 go_enter func375,ntmps375;go_wp2_with fail;refine(A9 a f _).mono ?_;exact vh):=h
def vh (h:p:=by
 rintro h g ⟨⟨j,e,i,rfl⟩,rfl⟩;exact aks):=h
def H4 (h:p:=by
 replace d:=d.trans (show u.dw 10 10 a.data.toList=u.df 10 0 (a.data.toList.drop 0)by unfold u.dw;rw[z (by omega)];rfl);exact akt):=h
def H5 (h:p:=by
 have i:=l (d.trans (show u.dw 10 10 a.data.toList=none by unfold u.dw;rw[B (by omega)]));exact Nf):=h
def H6 (h:p:=by
 have q:a.data.toList.length=a.size:=bN;by_cases c1:a.size<1
 . omega
 by_cases c2:10<a.size
 . exact H5
 exact H4):=h
def H7 (h:p:=by
 have i:=l (d.trans (show u.dw 16 8 a.data.toList=none by unfold u.dw;rw[B (by omega)]));exact Nf):=h
def akc (h:p:=by
 rw[hd]at c;exact Nh):=h
def H8 (h:p:=by
 go_enter func359,ntmps359;go_wp2_with fail;refine(Ey a f _).mono ?_;exact vh):=h
def H9 (h:p:=by
 go_wp2_with(go_at_call 308;refine(tt _ _).mono ?_;rintro i e ⟨rfl,rfl⟩);exact zt):=h
def Ia (h:p:=by
 have l:((a[b].toNat:Int) !=35)=false:=M;have j:Hid (e=p):=(by rw[s.out,A,C];simp only[u.tok];rw[B x];simp:e=p);clear s A C x;exact Ni):=h
def Ic (h:p:=by
 intro y B j m t;have u:y≠ .slice none 0 0:=pd;clear t;have z:Below c.heap.size c B:=uY;clear h m;rw[I.out,wt,show d-b=r by have:=i.out;omega]at j;go_wp2;go_roundw;case rel=>exact⟨d,p++[(a.data.toList.drop b).take r],by omega,by simp;omega,by go_num,u,by simpa using j,z,q⟩
 case measure=>exact a5):=h
def m9 (h:p:=by
 intro u D j;exact akv):=h
def Ie (h:p:=by
 intro u z j m t;have r:u≠ .slice none 0 0:=pd;clear t;have y:Below c.heap.size c z:=uY;clear h m;rw[I.out,wt,show b+1-b=1 by omega,au.out]at j;go_wp2;go_roundw;case rel=>exact⟨b+1,p++[[a[b]]],by omega,by simp;omega,by go_num,r,by simpa using j,y,q⟩
 case measure=>exact a5):=h
def If (h:p:=by
 go_roundw;case rel=>exact(by exact⟨b+1,p,by omega,by omega,by go_num,V,h,o,q⟩)
 case measure=>exact a5):=h
def Ig (h:p:=by
 have l:decide ((b:Int)< (a.size:Int))=false:=M;have j:Hid (e=p):=(by rw[s.out,show a.size-b=0 by omega];simp[u.tok]:e=p);clear s;exact Ni):=h
def Ih (h:p:=by exact⟨0,[],by omega,by simp,rfl,by simp,ri c _ 0 (aB _) gq rfl,(aq _ _).alloc (aB _) _,av⟩):=h
def ps (h:p:=by intro j hu;simp at hu;subst hu;rfl):=h
def gq (h:p:=by unfold maxLen;omega):=h
def Ii (h:p:=by
 go_wp2;all_goals go_ret
 all_goals exact⟨by simp[Nm.sP, *],rfl⟩):=h
def Ij (h:p:=by
 go_wp2;all_goals go_ret
 all_goals go_light
 all_goals refine⟨congrArg (fun c=>Ending.returned (Value.string c)) (?_:_=Nm.shape a),rfl⟩
 all_goals try simp only[bb,b5,ne_eq]at *
 all_goals first|(exfalso;omega)|(rw[Vk];repeat(first|rw[B (by omega)]|rw[z (by omega)]))):=h
def Ik (h:p:=by
 have HR:=l b;clear b d;go_enter func366,ntmps366;exact Nj):=h
def Il (h:p:=by
 go_enter func418,ntmps418;exact m8):=h
def Im (h:p:=by exact⟨a,1,by omega,by omega,rfl,rfl,l (by rw[c.out];omega)⟩):=h
def dF (h:p:=by simp[intOf]):=h
def In (h:p:=by
 have HR:=l g;clear g m;go_enter func424,ntmps424;exact Nj):=h
def Io (h:p:=by
 go_wp2_with(go_at_call 368;refine(H.out _).mono ?_;rintro l j ⟨rfl,rfl⟩);go_round;case rel=>exact⟨i+1,r,by omega,Z,rfl,by go_num,k⟩
 case measure=>exact a5):=h
def a5 (h:p:=by simp[intOf];omega):=h
def zv (h:p:=by
 go_wp2_with(go_at_call 323;refine e.out.mono ?_;rintro l j ⟨rfl,rfl⟩);go_ret;exact⟨by rw[<-f.out]<;>rfl,rfl⟩):=h
def ex (h:p:=by
 rintro D O ⟨rfl,rfl⟩;exact cn):=h
def zw (h:p:=by
 have d:=l (bz a m m);have e:=l (bz b m m);have f:=fX ((a:Int)+b);have g:am ((a:Int)+b)=iq a b:=by unfold am iq;omega
 rw[g]at f;have c:=l f;clear f g;exact na):=h
def na (h:p:=by
 go_enter func398,ntmps398;exact akw):=h
def Ip (h:p:=by
 have b:=l (bz a m m);have c:=l (bz d m m);have k:=e5 a o;have n:=e5 d p;obtain⟨e,g⟩:=y (aY a);obtain⟨f,h⟩:=y (aY d);unfold l0;exact Iz):=h
def Iq (h:p:=by
 have b:=l (bz a m m);have c:=l (bz d m m);unfold l1;exact IA):=h
def zx (h:p:=by
 have d:=l (bz a m m);have e:=l (bz b m m);have c:=l (acU a b f g);unfold kA;exact na):=h
def zy (h:p:=by
 have d:=l (bz a m m);have e:=l (bz b m m);have c:=l (xP a b f g);unfold ku;exact na):=h
def zz (h:p:=by
 have d:=l (bz a m m);have e:=l (bz b m m);have c:=l (fB a b f g);unfold kp;exact na):=h
def Ir (h:p:=by
 have s:=l (bz b m m);have t:=l (bz a m m);unfold kx;have x:(a:Int).tmod 32=((a%32:Nat):Int):=fc;have k:0<2^(a%32):=zo;have h:2^(a%32)<=2147483648:=zq;have c:=tx (a%32) m;obtain⟨w,i⟩:=y (a%32);rw[<-i]at x k h c|-;obtain⟨p,j⟩:=y (2^w:Nat);rw[<-j]at k h c|-;have r:=l c;clear c i j;have o:b*p<=4294967295*2147483648:=HL;have v:(b:Int)*p=((b*p:Nat):Int):=bN;obtain⟨d,n⟩:=y (b*p);rw[<-n]at o v|-;have g:=fX d;have f:am (d:Int)=d%4294967296:=vf;rw[f]at g;have e:=l g;have C:d<=9223372036854775807:=J;clear g f n o;go_enter func398,ntmps398;go_wp2_with fail;refine(s.out _).mono ?_;rintro u z ⟨rfl,rfl⟩;go_wp2_with fail;refine(t.out _).mono ?_;rintro u z ⟨rfl,rfl⟩;go_wp2_with fail;refine(r.out _).mono ?_;exact Iv):=h
def Is (h:p:=by
 have d:=l (bz b m m);have e:=l (bz a m m);unfold kz;have s:(a:Int).tmod 32=((a%32:Nat):Int):=fc;have i:0<2^(a%32):=zo;have j:2^(a%32)<=2147483648:=zq;have f:=tx (a%32) m;obtain⟨r,g⟩:=y (a%32);rw[<-g]at s i j f|-;obtain⟨p,h⟩:=y (2^r:Nat);rw[<-h]at i j f|-;have c:=l f;clear f g h;have q:=nW b p;have o:b/p<=b:=kf;obtain⟨v,k⟩:=y (b/p);rw[<-k]at q o|-;clear k;exact na):=h
def It (h:p:=by
 have r:=l (bz b m m);have s:=l (bz a m m);have A:=e5 b e;unfold ky;have v:(a:Int).tmod 32=((a%32:Nat):Int):=fc;have i:0<2^(a%32):=zo;have j:2^(a%32)<=2147483648:=zq;have c:=tx (a%32) m;obtain⟨u,f⟩:=y (a%32);rw[<-f]at v i j c|-;obtain⟨p,h⟩:=y (2^u:Nat);rw[<-h]at i j c|-;have q:=l c;clear c f h;have g:=tu (aY b) p m m m m;obtain⟨w,n⟩:=y (aY b/ (p:Int));rw[<-n]at g|-;have d:=l g;have k:=l (fX w);clear g n;go_enter func398,ntmps398;go_wp2_with fail;refine(r.out _).mono ?_;rintro t x ⟨rfl,rfl⟩;go_wp2_with fail;refine(s.out _).mono ?_;rintro t x ⟨rfl,rfl⟩;go_wp2_with fail;refine(q.out _).mono ?_;exact Nk):=h
def Iu (h:p:=by
 rw[<-c]at g|-;have d:=l g;have k:=l (fX h);clear g c;go_enter func398,ntmps398;go_wp2_with fail;refine(e.out _).mono ?_;rintro j r ⟨rfl,rfl⟩;go_wp2_with fail;refine(f.out _).mono ?_;exact Nk):=h
def Iv (h:p:=by
 rintro g l ⟨rfl,rfl⟩;exact akx):=h
def Iw (h:p:=by
 rw[B g];have j:a=0:=J;subst j;clear g n;exact hG):=h
def Ix (h:p:=by
 go_enter func398,ntmps398;go_wp2_with fail;refine(b.out _).mono ?_;rintro j l ⟨rfl,rfl⟩;go_wp2_with fail;refine(c.out _).mono ?_;exact Nl):=h
def Iy (h:p:=by
 subst e;rw[B rfl];exact hG):=h
def hG (h:p:=by
 go_enter func398,ntmps398;exact Nn):=h
def Iz (h:p:=by
 rw[<-g,<-h];exact aky):=h
def IA (h:p:=by
 by_cases e:a<d
 . exact akz
 . exact akA):=h
def IB (h:p:=by
 go_enter func395,ntmps395;exact Nn):=h
def vi (h:p:=by
 go_enter func395,ntmps395;go_wp2_with fail;refine(b.out _).mono ?_;rintro j l ⟨rfl,rfl⟩;go_wp2_with fail;refine(c.out _).mono ?_;rintro j l ⟨rfl,rfl⟩;go_wp2_with fail;go_ret;exact⟨by first|rfl|(congr 2;exact hd)|(simp[hd]),rfl⟩):=h
def IC (h:p:=by
 rw[B rfl];exact IB):=h
def IE (h:p:=by
 by_cases f1:c=1
 . exact akB
 . exact akC):=h
def IF (h:p:=by
 clear d;exact IE):=h
def IG (h:p:=by exact(aq _ _).alloc (aB _) _):=h
def IH (h:p:=by exact⟨b,i,by omega,by omega,rfl,rfl,d⟩):=h
def II (h:p:=by exact⟨p,a,by omega,by omega,rfl,by go_num,h⟩):=h
def zA (h:p:=by
 clear g;go_enter func391,ntmps391;exact pu):=h
def jD (h:p:=by
 clear hd f d;go_enter func416,ntmps416;go_wp2_with fail;refine s.out.mono ?_;exact JX):=h
def zB (h:p:=by
 go_wp2_with fail;go_ret;exact⟨by rw[HR.out]<;>first|rfl|(rw[<-b];rfl),rfl⟩):=h
def IJ (h:p:=by
 go_wp2_with fail;refine e.out.mono ?_;rintro j l ⟨rfl,rfl⟩;go_wp2_with fail;refine f.out.mono ?_;exact ex):=h
def IK (h:p:=by
 go_wp2_with fail;go_ret;exact⟨by first|rfl|(rw[<-d];rfl),rfl⟩):=h
def cn (h:p:=by
 go_wp2_with fail;exact lR):=h
def IL (h:p:=by
 go_wp2_with fail;refine u.out.mono ?_;rintro aa af ⟨rfl,rfl⟩;clear u;go_wp2_with fail;go_loop [8,9] (fun I p=>∃(a e:Nat),a<=b/\e<=4294967296/\I=j e/\p=j ((a:Int)-1)/\Hid (e=ff (c.drop a))) (fun _ p=>((intOf p)+1).toNat);case atStart=>exact⟨b,0,aB _,by omega,rfl,rfl,l (by rw[eQ (by omega)];rfl)⟩
 case round=>
  obtain⟨a,e,ad,ae,rfl,rfl,k⟩:=hrel;cases a with
  |zero=>
   have T:Hid (e=v):=by show e=v;rw[k.out,i.out];rfl
   clear k i t;go_wp2_with fail;go_ret;exact⟨by rw[T.out]<;>rfl,rfl⟩
  |succ a=>
   have D:(((a+1:Nat):Int)-1)=a:=J;rw[D];have Q:=t.out a m;have O:=gJ (c[a]'m);have n:ff (c.drop a)=(c[a]'m).toNat+256*e:=by
    rw[js (show a<c.length by omega)];simp only[ff];rw[k.out]
   have G:ff (c.drop a)<=4294967296:=by
    have ab:=p7 (c.drop a);have ac:256^(c.drop a).length<=256^4:=cY R (by rw[h7];omega);omega
   obtain⟨w,H⟩:=y ((c[a]'m).toNat);rw[<-H]at Q O n;have S:Hid (e*256+w=ff (c.drop a)):=by show _=_;rw[n];omega
   have U:e*256+w<=4294967296:=by rw[n]at G;omega
   clear k i n G H D;go_wp2_with fail;go_round;case rel=>exact⟨a,e*256+w,by omega,U,by go_num,by go_num,S⟩
   case measure=>simp[intOf]):=h
def jE (h:p:=by
 have d:=c.ne;have h:¬b=a:=vk;have i:=c.V8;have j:=c.c1;have l:=c.c2;have m:=c.c3;have n:=c.c4;have o:=c.c5;have p:=c.W4;have q:=c.W5;have r:=c.Xj;have s:=c.Xi;have k:=c.Xt;have t:=c.Wb;have v:=c.lt;have y:=c.XA;have z:=c.Ww;refine⟨?_,?_,?_,?_,?_,?_,?_,?_,?_,?_,?_,?_,?_,fun x u=>?_,?_,?_,d⟩;all_goals first|(have w:=c.o x u;simp[go_sem,d,h,w];done)|(simp[go_sem,i,j,l,m,n,o,p,q,r,s,k,t,v,y,z,d,h];done)):=h
def nb (h:p:=by
 rw[e];clear e;exact IN):=h
def IM (h:p:=by
 rintro j l ⟨rfl,rfl⟩;exact IX):=h
def IN (h:p:=by
 go_enter func392,ntmps392;exact akD):=h
def akd (h:p:=by
 rintro j l ⟨rfl,rfl⟩;exact Np):=h
def IP (h:p:=by
 go_wp2;go_loopw [0,5,6] (fun z s i wr=>∃b:Nat,b<=c/\i=j b/\wr.ownsRow a.heap.size 5 1 s b ((b4 d b).map (Value.int .u8))/\Below a.heap.size a wr/\(∃e,z=j e/\Hid (e=d/256^b))) (fun _ _ i _=>c- (intOf i).toNat);case atStart=>
  refine⟨0,Nat.zero_le _,rfl,ri a _ 8 (aB _) gq rfl,(aq _ _).alloc (aB _) _,d,rfl,(by simp:d=d/256^0)⟩
 case round=>
  obtain⟨b,L,rfl,h,f,e,rfl,l⟩:=hrel;by_cases M:b<c
  . have v:(b:Int)<8:=J;have C:(b:Int)<c:=J;have w:=f.size;have y:∀q,u5.ownBlock=some q->a.heap.size<=q:=uX;go_wp2_with(at_builtin;refine j8 _ rfl (.tmp 17) (.tmp 20) 64 rfl a.heap.size 5 p (.int .u8 0) 1 1 gQ k m n o rfl R _ _ _ rfl (h.alloc _) ⟨wr.heap.size,0,none⟩ 1 1 [.int .u8 (e%256)] rfl rfl ?c1 ?c2 ?c3 ?c4 ?c5 ?_);case c1=>
     exact m9
    case c2=>intro N hu;simp at hu;subst hu;rfl
    case c3=>unfold maxLen;omega
    case c4=>omega
    case c5=>simp;omega
    intro E O r x _;clear h;go_wp2;go_roundw;case rel=>
     refine⟨b+1,by omega,by go_num,?_,?_,e/256,rfl,?_⟩
     . have t:(b4 d (b+1)).map (Value.int .u8)=(b4 d b).map (Value.int .u8)++[Value.int .u8 (e%256)]:=by
        rw[l.out];simp[b4]
       rw[t];exact r
     . exact(f.alloc w _).grown x ad y
     . show e/256=d/256^(b+1);rw[l.out,Int.pow_succ];exact yl (Int.pow_nonneg R)
    case measure=>exact a5
  . have v:¬(b:Int)<c:=J;obtain rfl:b=c:=by omega
    have I:=TW 64 9 gQ oz h5 h;rcases h.2 with⟨rfl,H⟩|⟨g,F,G,rfl,K⟩
    . go_wp2;go_ret;exact⟨rfl,f⟩
    . go_wp2;go_ret;exact⟨rfl,f⟩):=h
def IQ (h:p:=by rw[<-e];exact run_string_add_sum d a b m):=h
def IR (h:p:=by
 have l:=b.o c k;by_cases f:c=a
 . subst f;simp[go_sem,l]
 . have D:¬a=c:=fun b=>f b.symm;simp[go_sem,l,f,D,mS]):=h
def IT (h:p:=by
 clear k x z w n;go_wp2_with fail;go_roundw;case rel=>
  first
   |exact⟨i+1,R,c.set (p+i) (UInt8.ofNat a),by omega,s,rfl,by go_num,Q,K,O,r⟩
   | ((repeat apply hC);exact⟨⟨i+1,R,c.set (p+i) (UInt8.ofNat a),by omega,s,rfl,by go_num,Q,K,O,r⟩,rfl⟩)
 case measure=>exact a5):=h
def zC (h:p:=by
 clear w;exact rV):=h
def rV (h:p:=by
 go_enter oB,oC;exact akE):=h
def IU (h:p:=by
 rintro j l ⟨rfl,rfl⟩;exact vl):=h
def IV (h:p:=by
 rw[d];clear d;go_enter oB,oC;go_wp2_with fail;refine u.out.mono ?_;rintro m y ⟨rfl,rfl⟩;go_wp2_with fail;refine v.out.mono ?_;exact IU):=h
def IW (h:p:=by
 go_enter func238,ntmps238;exact cn):=h
def IX (h:p:=by
 go_wp2_with fail;exact akF):=h
def pt (h:p:=by repeat(first|with_reducible exact Kept.refl _ _|(with_reducible refine Kept.setCell ?_ (.inl F) _))):=h
def ik (h:p:=by
 go_wp2_with fail;exact r3):=h
def IY (h:p:=by
 clear e;exact akG):=h
def zD (h:p:=by
 go_enter func234,ntmps234;exact cn):=h
def IZ (h:p:=by exact⟨rfl,by rw[V.out];exact h.out,f.out⟩):=h
def rW (h:p:=by
 go_enter func245,ntmps245;exact ik):=h
def zE (h:p:=by exact⟨0,fun j=>by rw[f j,B o],.inl m⟩):=h
def zF (h:p:=by exact⟨a,fun j=>by rw[f j,z o],.inr rfl⟩):=h
def I0 (h:p:=by
 have v:=b.cell c i;rw[n];by_cases j:c=a
 . subst j;rw[List.getElem?_set_self (by omega)];simp[go_sem,h]
 . have m:¬a=c:=fun b=>j b.symm;rw[yt m,<-v];simp[go_sem,j,m]):=h
def I1 (h:p:=by
 go_wp2_with fail;go_ret;exact⟨by rw[f.out]<;>rfl,(aq _ _).alloc (aB _) _⟩):=h
def pu (h:p:=by
 go_wp2_with fail;exact akH):=h
def I2 (h:p:=by
 go_wp2_with fail;go_end0;exact Nq):=h
def I3 (h:p:=by rw[o.frozen (p:=⟨W.heap.size,b,none⟩) (by simp),x b]):=h
def zG (h:p:=by
 go_enter func169,ntmps169;exact ik):=h
def vl (h:p:=by
 go_wp2_with fail;exact akI):=h
def zH (h:p:=by
 go_enter func362,ntmps362;go_wp2_with fail;go_ret;exact⟨by show _=Ending.returned (j ((a-f:Nat):Int));rw[t.out]<;>rfl,rfl⟩):=h
def vm (h:p:=by
 clear a;go_enter func324,ntmps324;go_wp2_with fail;refine s.out.mono ?_;rintro l y ⟨rfl,rfl⟩;go_wp2_with fail;refine t.out.mono ?_;rintro l m ⟨rfl,j⟩;have d0:al m o 0 (I h):=Km;go_wp2_with fail;refine(u.out _ j).mono ?_;rintro l w3 ⟨rfl,rfl⟩;exact Nt):=h
def vn (h:p:=by
 clear a;go_enter func324,ntmps324;go_wp2_with fail;refine s.out.mono ?_;rintro l D ⟨rfl,rfl⟩;go_wp2_with fail;refine t.out.mono ?_;rintro l y ⟨rfl,j⟩;have d0:al y o 0 (I h):=Km;go_wp2_with fail;refine(u.out _ j).mono ?_;rintro l w3 ⟨rfl,rfl⟩;go_wp2_with fail;refine(L.out _ m m _).mono ?_;rintro l F ⟨rfl,rfl⟩;exact Nt):=h
def I4 (h:p:=by
 clear h e b;go_enter func436,ntmps436;exact I5):=h
def I5 (h:p:=by
 go_wp2_with fail;exact akJ):=h
def zI (h:p:=by
 clear a;go_wp2_with fail;refine i.out.mono ?_;exact M3):=h
def ek (h:p:=by
 clear b;exact Nu):=h
def vo (h:p:=by
 have D:=h.out.V8;have j:=l (dk f g e d i);go_enter func248,ntmps248;go_wp2_with fail;refine j.out.mono ?_;rintro I P ⟨rfl,a⟩;have b:=h.out.more (Below.kept a []) F;exact ek):=h
def I6 (h:p:=by
 have p:=h.out.V8;have j:=l (dk e g d c k);go_enter func248,ntmps248;go_wp2_with fail;refine j.out.mono ?_;rintro q r ⟨rfl,a⟩;have b:=h.out.more (Below.kept a []) F;have d32:=b.Ya;exact ek):=h
def I7 (h:p:=by
 have p:=h.out.V8;have j:=l (dk e g d c k);go_enter func248,ntmps248;go_wp2_with fail;refine j.out.mono ?_;rintro q r ⟨rfl,a⟩;have b:=h.out.more (Below.kept a []) F;have d33:=b.Xk;exact ek):=h
def I8 (h:p:=by
 have p:=h.out.V8;have j:=l (dk e g d c k);go_enter func248,ntmps248;go_wp2_with fail;refine j.out.mono ?_;rintro q r ⟨rfl,a⟩;have b:=h.out.more (Below.kept a []) F;have d34:=b.Xl;exact ek):=h
def I9 (h:p:=by
 have p:=h.out.V8;have j:=l (dk e g d c k);go_enter func248,ntmps248;go_wp2_with fail;refine j.out.mono ?_;rintro q r ⟨rfl,a⟩;have b:=h.out.more (Below.kept a []) F;have d35:=b.Xq;exact ek):=h
def Ja (h:p:=by
 go_wp2_with fail;exact akK):=h
def Jb (h:p:=by
 go_wp2_with fail;refine n.out.mono ?_;rintro l t ⟨rfl,q,h⟩;go_wp2_with fail;go_ret;exact Jc):=h
def Jc (h:p:=by exact⟨rfl,b.out.Xy (h.mono F) q,h.mono F⟩):=h
def kj (h:p:=by
 go_enter func444,ntmps444;exact akL):=h
def zJ (h:p:=by
 rcases C with rfl|rfl|rfl
 . exact kj
 . cases r
   . cases J
     . exact kj
     . exact kj
   . exact kj
 . exact kj):=h
def vp (h:p:=by
 replace d:R=((0,1),c.b):=d;exact Nv):=h
def zL (h:p:=by
 cases aS
 . exact vp
 cases aN
 . rcases P with rfl|rfl|rfl
   . exact AP
   . exact AP
   . cases ar
     . replace d:R=((O,0),{c.b with o:=bu c.b.o (f-2147483648) 4 (b+192)}):=d;subst d;exact Nw
     . exact AP
 . rcases P with rfl|rfl|rfl
   . exact AQ
   . exact AQ
   . cases ar
     . replace d:R=((O,0),{c.b with o:=bu c.b.o (f-2147483648) 4 (b+128)}):=d;subst d;exact Nx
     . exact AQ):=h
def ake (h:p:=by
 go_ret2;exact rZ):=h
def nc (h:p:=by
 replace d:P=((0,1),c.b):=by rw[d];simp
 exact Ny):=h
def zM (h:p:=by
 cases a8
 . exact nc
 cases aX
 . exact nc
 cases aE
 . rcases Q with rfl|rfl|rfl
   . exact AR
   . exact AR
   . cases ah
     . replace d:P=((T,0),{c.b with o:=bu c.b.o aC 4 (b+192)}):=by rw[d];simp
       subst d;as_aux_lemma=>
        exact Nw
     . exact AR
 . rcases Q with rfl|rfl|rfl
   . exact AS
   . exact AS
   . cases ah
     . replace d:P=((T,0),{c.b with o:=bu c.b.o aC 4 (b+128)}):=by rw[d];simp
       subst d;as_aux_lemma=>
        exact Nx
     . exact AS):=h
def rX (h:p:=by
 repeat' split
 all_goals omega):=h
def zN (h:p:=by
 repeat' split
 all_goals (dsimp only;omega)):=h
def pv (h:p:=by exact⟨by dsimp only;omega,by dsimp only;omega⟩):=h
def zO (h:p:=by
 repeat' split
 all_goals exact this):=h
def Jd (h:p:=by
 go_wp2_with fail;refine f.out.mono ?_;rintro z B ⟨rfl,j,y⟩;have m:=l j;clear j;go_wp2_with fail;go_ret2;exact⟨rfl,m.out,y⟩):=h
def Je (h:p:=by cases b.testBit i<;>cases c.testBit i<;>simp[d]):=h
def Jf (h:p:=by
 go_enter func216,ntmps216;go_wp2;go_ret;exact⟨by rw[show C.isLet a=false by simp[C.isLet];omega];rfl,rfl⟩):=h
def Jg (h:p:=by
 go_round;case rel=>exact⟨i,c/2,d,b,by omega,by omega,by go_num,by go_num,by go_num,by go_num,e⟩
 case measure=>simp[intOf]):=h
def pw (h:p:=by
 go_wp2_with fail;all_goals (go_ret;refine⟨eM ?_,rfl⟩;rw[c.out];simp_all)):=h
def vq (h:p:=by
 rw[c,d]at this;rw[this];simp):=h
def Jh (h:p:=by
 go_wp2_with fail;go_ret;exact⟨eM (by rw[d.out]<;>rfl),rfl⟩):=h
def jF (h:p:=by
 go_enter func265,ntmps265;exact Nz):=h
def zQ (h:p:=by
 have h:=e5 b c;have i:=e5 a d;obtain⟨j,k⟩:=h;obtain⟨l,n⟩:=i;exact px):=h
def px (h:p:=by
 go_enter func267,ntmps267;exact Nz):=h
def rY (h:p:=by
 go_wp2_with fail;all_goals (go_ret;refine⟨xk ?_,rfl⟩;rw[c.out];simp_all<;>try first|omega|(rw[dZ];simp;omega))):=h
def Jj (h:p:=by
 go_wp2_with fail;refine r.out.mono ?_;rintro j l ⟨rfl,rfl⟩;go_wp2_with fail;refine s.out.mono ?_;exact ex):=h
def zR (h:p:=by
 go_wp2_with fail;exact akM):=h
def Jk (h:p:=by
 go_enter func283,ntmps283;exact zR):=h
def Jl (h:p:=by
 go_enter func190,ntmps190;go_wp2_with(go_at_call 136;refine(e0 _ _).mono ?_;rintro l j ⟨rfl,rfl⟩);go_ret;exact⟨eM (by rw[r.out]),rfl⟩):=h
def Jm (h:p:=by rcases d with rfl|rfl|rfl|rfl|rfl|rfl|rfl|rfl|rfl|rfl|rfl|rfl|rfl|rfl|rfl|rfl|rfl|rfl|rfl|rfl|rfl|rfl|rfl|rfl|rfl|rfl|rfl|rfl|rfl|rfl|rfl|rfl<;>rfl):=h
def rZ (h:p:=by exact⟨rfl,a.out,Kept.refl _ _⟩):=h
def Jn (h:p:=by
 go_enter func257,ntmps257;exact pu):=h
def Jo (h:p:=by repeat(first|exact Kept.refl _ _|refine Kept.drew ?_|refine Kept.alloc ?_ _)):=h
def Jp (h:p:=by
 go_enter func187,ntmps187;go_wp2_with fail;refine(e _).out.mono ?_;rintro j m ⟨rfl,l⟩;go_wp2_with(go_at_call 256;refine(mJ _ _).mono ?_;rintro j m ⟨rfl,rfl⟩);go_ret;exact⟨eM (by rw[h.out];rfl),((Kept.refl _ _).alloc _).trans l⟩):=h
def Jq (h:p:=by exact ac (v:=.agg #[j a.enable,j a.Wr,.bool a.lost,.string a.rx,.string a.Wc]) yD rfl ⟨rfl,gp⟩):=h
def Jr (h:p:=by
 go_region_with fail;all_goals
  go_wp2_with fail;exact ac (v:=.tuple #[j 0,.agg #[j a.enable,j a.Wr,.bool a.lost,.string a.rx,.string a.Wc]]) ux rfl ⟨rfl,gp⟩):=h
def Js (h:p:=by
 go_enter func379,ntmps379;exact cn):=h
def Jt (h:p:=by
 have f:Hid (g=false):=pH;exact NA):=h
def Ju (h:p:=by
 have f:Hid (g=H):=pH;exact NA):=h
def Jv (h:p:=by
 clear a p;exact NB):=h
def Jw (h:p:=by
 go_enter func378,ntmps378;go_wp2_with(first|(go_at_call 336;refine(v _).out.mono ?_;rintro g l ⟨rfl,rfl⟩)|(go_at_call 376;refine(H.out _ K).mono ?_;rintro g l ⟨rfl,rfl⟩)|(go_at_call 377;refine(s _).out.mono ?_;rintro g l ⟨rfl,rfl⟩));exact ac (v:=.tuple #[.agg #[j 0,j 0,j 0],j 1]) yE rfl ⟨rfl,gp⟩):=h
def Jx (h:p:=by rw[d,B l];exact(od a f 1 c g mode R).symm):=h
def Jy (h:p:=by
 go_enter func335,ntmps335;go_wp2_with fail;refine(L.out _ O).mono ?_;rintro j l ⟨rfl,z,x⟩;go_wp2_with fail;exact JF):=h
def Jz (h:p:=by
 go_enter func261,ntmps261;go_wp2_with(first|(go_at_call 332;refine(w.out _ C).mono ?_;rintro l m ⟨rfl,rfl⟩)|(go_at_call 199;refine(on _).mono ?_;rintro l m ⟨rfl,rfl⟩));exact ac (v:=.tuple #[j o,.agg #[j (-1),j 0]]) (by simp[results,results261,go_sem]) rfl ⟨rfl,gp⟩):=h
def zS (h:p:=by rw[z (by simpa using e)]at d;cases d):=h
def fI (h:p:=by repeat(first|(with_reducible exact Kept.refl _ _)|(with_reducible refine Kept.setCell ?_ (hz F) _)|(with_reducible refine Kept.drew ?_)|(with_reducible refine Kept.alloc ?_ _))):=h
def im (h:p:=by repeat(first|(with_reducible exact Kept.refl _ _)|(with_reducible refine Kept.setCell ?_ (ci aL) _)|(with_reducible refine Kept.drew ?_)|(with_reducible refine Kept.alloc ?_ _)|(with_reducible refine Kept.trans ?_ (b.mono F)))):=h
def vr (h:p:=by repeat(first|(with_reducible exact Kept.refl _ _)|(with_reducible refine Kept.setCell ?_ (ci aL) _)|(with_reducible refine Kept.drew ?_)|(with_reducible refine Kept.alloc ?_ _)|(with_reducible refine Kept.trans ?_ (n.mono F))|(with_reducible refine Kept.trans ?_ (b.mono F)))):=h
def zT (h:p:=by
 rw[B (by simp)];rw[show j1 ((k,0),n) i e d=.tuple #[.agg #[j k,j e],.agg #[j (-1),j 0]]from rfl];go_enter func340,ntmps340;go_wp2_with fail;refine(o.out _ Y).mono ?_;rintro v m ⟨rfl,f,b⟩;have Q:al m a.heap.size 0 (j 0):=eU;have R:al m a.heap.size 1 (j 0):=eU;have G:dY m a.heap.size:=jI;have T:a.heap.size<m.heap.size:=fo;have U:al m (a.heap.size+1) 0 (j 0):=eU;have V:al m (a.heap.size+1) 1 (j 0):=eU;have I:dY m (a.heap.size+1):=jI;have X:a.heap.size+1<m.heap.size:=fo;have z:Hid (E ((m.alloc (.cells #[j (-1),j 0] 118)).alloc (.cells #[j (-1),j 0] 118)) p q (h.V7 n)):=pJ;go_upto_region 6 with(first|(go_at_call 83;refine(cd _ _ _).mono ?_;rintro v N ⟨rfl,rfl⟩)|(go_at_call 262;refine(ah.out _ z).mono ?_;rintro v y ⟨rfl,rfl⟩)|(go_at_call 341;refine(aj.out _).mono ?_;rintro v y ⟨rfl,rfl⟩)|(go_at_call 343;refine(ai.out _).mono ?_;rintro v y ⟨rfl,rfl⟩)|(go_at_call 275;refine(ag.out _).mono ?_;rintro v y ⟨rfl,rfl⟩));go_region;all_goals
  go_wp2_with fail;refine ac (v:=.tuple #[.agg #[j k,j e],.agg #[j (-1),j 0]]) yI rfl ⟨rfl,f.more (G:=[a.heap.size,a.heap.size+1]) ?_ ad ad,?_⟩
  . exact fI
  . exact im):=h
def JA (h:p:=by
 rw[f,g,z (by simp),B rfl];unfold es at a;exact JB):=h
def JB (h:p:=by
 simp at a;obtain⟨_,a|a|a|a|a⟩:=a<;>subst a<;>rfl):=h
def JC (h:p:=by
 go_wp2_with fail;exact vs):=h
def zU (h:p:=by repeat(first|(with_reducible exact Kept.refl _ _)|(with_reducible refine Kept.Xb ?_ _ _)|(with_reducible refine Kept.setCell ?_ (ci aL) _)|(with_reducible refine Kept.drew ?_)|(with_reducible refine Kept.alloc ?_ _)|(with_reducible refine Kept.trans ?_ (h.mono F)))):=h
def vs (h:p:=by
 go_ret;exact JD):=h
def JD (h:p:=by exact⟨rfl,(Kept.refl _ _).alloc _⟩):=h
def JF (h:p:=by
 go_end0;exact⟨rfl,z,((Kept.refl _ _).alloc _).trans x⟩):=h
def JG (h:p:=by
 clear aG H;as_aux_lemma=>
  clear ar au aH bh bi ab b bg ax ae aw av;go_enter oQ,oR;go_wp2_with fail;refine(aa.out _ az).mono ?_;rintro M r ⟨rfl,z,b⟩;obtain⟨ay,aT,a2,a3,bF,b0,cd,cj,ck,cf,cl,cg,cm,ch,cn,ci⟩:a8 r a.heap.size 0 0 0 0 0 0:=iX;have W:=l z;have d0:=z.V8;have J:Hid (r.there a.heap.size 0 6):=yU;go_upto_region 10 with(go_at_call 416;refine(Z _ W.out.Wt.V8).out.mono ?_;rintro M ai ⟨rfl,I⟩;rw[I];clear I ai);refine gj ?_;refine wpList_plain rfl (fun p d=>?_);go_simp;refine d _ _ ?_;clear d p;refine wpList_plain rfl (fun p d=>?_);go_simp;refine d _ _ ?_;clear d p;refine gl rfl _ _ _ rfl a.heap.size 0 #[j 0,j 0,j 0,j 0,j 2,j f] rfl rfl J.out nN oW ?_;refine gm ?_;have o:=j9 r a.heap.size 0 [j 0,j 0,j 0,j 0,j 2,j f] J.out;have G:V (World.setCells r a.heap.size 0 [j 0,j 0,j 0,j 0,j 2,j f]) N s T U t _:=GF;have D:Kept [s,t] a (World.setCells r a.heap.size 0 [j 0,j 0,j 0,j 0,j 2,j f]):=GG;obtain⟨m,B⟩:=y (World.setCells r a.heap.size 0 [j 0,j 0,j 0,j 0,j 2,j f]);rw[<-B]at o G D;have ak:al m a.heap.size 0 (j 0):=o1;have am:al m a.heap.size 1 (j 0):=o2;have an:al m a.heap.size 2 (j 0):=o3;have ao:al m a.heap.size 3 (j 0):=o4;have ap:al m a.heap.size 4 (j 2):=o5;have aq:al m a.heap.size 5 (j f):=o6;rw[show World.setCells r a.heap.size 0 (List.toArray [j 0,j 0,j 0,j 0,j 2,j f]).toList=m from B.symm];clear B o;go_wp2_with fail;exact ac (v:=.agg #[j 0,j 0,j 0,j 0,j 2,j f]) oX rfl ⟨rfl,G,D⟩):=h
def JH (h:p:=by
 clear aG H;as_aux_lemma=>
  clear ar au aH bh bi ab b bg ax ae aw av;go_enter oQ,oR;go_wp2_with fail;refine(aa.out _ az).mono ?_;rintro ck r ⟨rfl,z,b⟩;obtain⟨J,M,W,ai,ay,aT,a2,cf,cg,a3,ch,bF,ci,b0,cj,cd⟩:a8 r a.heap.size 0 0 0 0 0 0:=iX;have I:Hid (r.there a.heap.size 0 6):=yU;go_upto_region 7 with fail;refine gj ?_;refine wpList_plain rfl (fun p d=>?_);go_simp;refine d _ _ ?_;clear d p;refine wpList_plain rfl (fun p d=>?_);go_simp;refine d _ _ ?_;clear d p;refine wpList_plain rfl (fun p d=>?_);go_simp;refine d _ _ ?_;clear d p;refine gl rfl _ _ _ rfl a.heap.size 0 #[j 0,j 0,j 0,j 0,j f1,j f] rfl rfl I.out nN oW ?_;refine gm ?_;have o:=j9 r a.heap.size 0 [j 0,j 0,j 0,j 0,j f1,j f] I.out;have G:V (World.setCells r a.heap.size 0 [j 0,j 0,j 0,j 0,j f1,j f]) N s T U t _:=GF;have D:Kept [s,t] a (World.setCells r a.heap.size 0 [j 0,j 0,j 0,j 0,j f1,j f]):=GG;obtain⟨m,B⟩:=y (World.setCells r a.heap.size 0 [j 0,j 0,j 0,j 0,j f1,j f]);rw[<-B]at o G D;have ak:al m a.heap.size 0 (j 0):=o1;have am:al m a.heap.size 1 (j 0):=o2;have an:al m a.heap.size 2 (j 0):=o3;have ao:al m a.heap.size 3 (j 0):=o4;have ap:al m a.heap.size 4 (j f1):=o5;have aq:al m a.heap.size 5 (j f):=o6;rw[show World.setCells r a.heap.size 0 (List.toArray [j 0,j 0,j 0,j 0,j f1,j f]).toList=m from B.symm];clear B o;go_wp2_with fail;exact ac (v:=.agg #[j 0,j 0,j 0,j 0,j f1,j f]) oX rfl ⟨rfl,G,D⟩):=h
def vt (h:p:=by
 show _=_;rw[<-c,jr,hA,f,ds,fl b a];omega):=h
def zV (h:p:=by intro d;subst d;revert c;decide):=h
def JI (h:p:=by
 go_wp2_with(go_at_call 216;refine(p0 _ _).mono ?_;rintro y j ⟨rfl,rfl⟩);go_round;case rel=>exact⟨i,c,b*2,f,y1,y2,by omega,by go_num,by go_num,by go_num,rfl,rfl,rfl,r,q,l⟩
 case measure=>simp[intOf]):=h
def JJ (h:p:=by
 rcases uk f with d|d
 . have h:=wm (b:=0) g d e;have y:bits BinOp.and IntKind.i64 (f) 1=0:=lz;have l:Hid (c+(b*2)*C.draw (C.ah a.data.toList i) (f/2) y1 y2 k=m):=lA;have j:G c:=lB;clear d e h g;go_wp2;go_round;case rel=>exact⟨i,c,b*2,f/2,y1,y2,by omega,by go_num,by go_num,by go_num,rfl,rfl,rfl,r,q,l⟩
   case measure=>simp[intOf]
 . have h:=wm (b:=1) g d e;have y:bits BinOp.and IntKind.i64 (f) 1=1:=lz;have l:Hid (c+b+(b*2)*C.draw (C.ah a.data.toList i) (f/2) y1 y2 k=m):=lA;have j:c+b<4294967296:=lB;clear d e h g;go_wp2;go_round;case rel=>exact⟨i,c+b,b*2,f/2,y1,y2,by omega,by go_num,by go_num,by go_num,rfl,rfl,rfl,r,q,l⟩
   case measure=>simp[intOf]):=h
def JK (h:p:=by
 go_wp2;go_ret;exact⟨by rw[c,g];rfl,(((aq _ _).alloc (aB _) _).alloc F _).alloc ad _⟩):=h
def zW (h:p:=by
 go_wp2;go_ret;exact⟨by rw[c];rfl,((aq _ _).alloc (aB _) _).alloc F _⟩):=h
def JL (h:p:=by
 go_wp2;go_ret;exact⟨by simp[s,t,v,C,H],a.below⟩):=h
def JM (h:p:=by
 go_enter func137,ntmps137;go_wp2;go_ret;exact⟨congrArg (fun f=>Ending.returned (j f)) (by unfold sizeOf;rw[B (by omega)]),rfl⟩):=h
def zX (h:p:=by
 go_enter func138,ntmps138;exact m8):=h
def nd (h:p:=by
 go_enter func145,ntmps145;go_wp2;go_ret;exact⟨rfl,((aq _ _).alloc (aB _) _).alloc F _⟩):=h
def akf (h:p:=by
 show i=_;rw[w.out,O.out];rfl):=h
def JN (h:p:=by exact(nw a.below _ (aB _) _ _ _ _ _ _).alloc ad _):=h
def zY (h:p:=by exact nw a.below _ (aB _) _ _ _ _ _ _):=h
def zZ (h:p:=by exact⟨1,by omega,by omega,rfl,hI.start _ _,rfl⟩):=h
def JO (h:p:=by
 go_wp2;go_roundw;case rel=>exact⟨a+1,f,by omega,by omega,by go_num,rfl,rfl,c.alloc _,by rw[show b+1- (a+1)=b-a by omega];exact e⟩
 case measure=>exact a5):=h
def JP (h:p:=by exact⟨a+1,some W,by omega,by omega,by go_num,rfl,rfl,c,by rw[show b+1- (a+1)=b-a by omega];exact e⟩):=h
def JQ (h:p:=by
 have e:Hid (h=true):=AK;clear a;exact z1):=h
def z1 (h:p:=by
 go_enter func135,ntmps135;exact pu):=h
def JR (h:p:=by
 go_enter func85,ntmps85;go_wp2_with fail;go_ret;exact⟨eM (by rw[f.out]),(Kept.refl _ _).alloc _⟩):=h
def py (h:p:=by
 go_wp2_with fail;exact akN):=h
def JS (h:p:=by go_ret;exact⟨xk (by simp only[holds];rw[dZ];simp;omega),(Kept.refl _ _).alloc _⟩):=h
def JT (h:p:=by
 refine(x.out _).mono ?_;rintro i l ⟨rfl,rfl⟩;go_wp2_with fail;refine(z.out _).mono ?_;rintro i l ⟨rfl,rfl⟩;go_wp2_with fail;exact z6):=h
def z6 (h:p:=by go_ret;exact⟨xk (by simp[holds]),(Kept.refl _ _).alloc _⟩):=h
def nf (h:p:=by repeat(first|(with_reducible exact h)|(with_reducible refine V.alloc ?_ _)|(with_reducible refine V.drew ?_)|(with_reducible refine V.other _ _ _ ?_ m m m m m))):=h
def pz (h:p:=by exact s.setCell (ci aL) _ |>.setCell (ci aL) _ |>.setCell (ci aL) _):=h
def z7 (h:p:=by
 simp only[bM]at c;obtain⟨⟨rfl,rfl,rfl⟩,rfl⟩:=c;go_wp2_with(go_at_call 421;refine(bp.out _).mono ?_;rintro B W ⟨rfl,z⟩;rw[z];clear z W);refine(bq.out _ _ bt).mono ?_;rintro B ai ⟨rfl,y,p⟩;have R:=l (y);have J:=a1.more p ad;have D:=bs.more p ad;have M:=br.trans (p.mono F);have I:=y.c3;rw[xu]at I;have ag:=J.cell 5 _ rfl;go_upto_region 11 with fail;go_region_with(first|(go_at_call 394;refine(bo.out _).mono ?_;rintro B ak ⟨rfl,j⟩;have i:=D.drew.kept (Below.kept j []);have ax:=i.cell 0 _ rfl;have ay:=i.cell 1 _ rfl;have az:=i.cell 2 _ rfl;have aA:=i.Wb;have aB:=i.lt));all_goals
  have i:=D.drew.kept (Below.kept j []);have ax:=i.cell 0 _ rfl;have ay:=i.cell 1 _ rfl;have az:=i.cell 2 _ rfl;obtain⟨-,aA,aB⟩:=id i;have h:=R.out.drew.kept (Below.kept j []);have s:=M.drew.trans ((Below.kept j []).mono F);go_wp2_with fail;exact FL):=h
def akg (h:p:=by
 go_wp2_with fail;exact FL):=h
def vu (h:p:=by
 rw[z (by decide)]at d;simp only[bM]at d;obtain⟨⟨rfl,rfl,rfl⟩,rfl⟩:=d;go_enter func401,ntmps401;go_wp2_with(first|(go_at_call 432;refine(e.out _ t.out).mono ?_;rintro y j ⟨rfl,i⟩;rw[i];clear i j)|(go_at_call 433;refine(e.out _ t.out).mono ?_;rintro y j ⟨rfl,i⟩;rw[i];clear i j)|(go_at_call 434;refine(e.out _ t.out).mono ?_;rintro y j ⟨rfl,i⟩;rw[i];clear i j)|(go_at_call 435;refine(e.out _ t.out).mono ?_;rintro y j ⟨rfl,i⟩;rw[i];clear i j));refine(al.out _).mono ?_;rintro y W ⟨rfl,Q⟩;have l:=X.kept (Below.kept Q []);have h:=t.out.kept (Below.kept Q []);have s:=U.trans ((Below.kept Q []).mono F);exact NC):=h
def JU (h:p:=by
 go_enter func401,ntmps401;go_wp2_with(first|(go_at_call 432;refine(e.out _ t.out).mono ?_;rintro y j ⟨rfl,i⟩;rw[i];clear i j)|(go_at_call 433;refine(e.out _ t.out).mono ?_;rintro y j ⟨rfl,i⟩;rw[i];clear i j)|(go_at_call 434;refine(e.out _ t.out).mono ?_;rintro y j ⟨rfl,i⟩;rw[i];clear i j)|(go_at_call 435;refine(e.out _ t.out).mono ?_;rintro y j ⟨rfl,i⟩;rw[i];clear i j));refine(Y.out _ M.out).mono ?_;rintro y ay ⟨rfl,W,Q⟩;have ai:=L.more Q ad;have ak:=M.out.XE Q W;have ag:=N.trans (Q.mono F);go_wp2_with fail;refine(Z.out _ _).mono ?_;rintro y az ⟨rfl,z⟩;have l:=ai.kept (Below.kept z []);have h:=ak.kept (Below.kept z []);have s:=ag.trans ((Below.kept z []).mono F);exact NC):=h
def JV (h:p:=by
 go_enter func401,ntmps401;have Q:=aa.drew.cell 5 _ rfl;go_upto_region 24 with(first|(go_at_call 432;refine(e.out _ t.out).mono ?_;rintro z l ⟨rfl,i⟩;rw[i];clear i l)|(go_at_call 433;refine(e.out _ t.out).mono ?_;rintro z l ⟨rfl,i⟩;rw[i];clear i l)|(go_at_call 434;refine(e.out _ t.out).mono ?_;rintro z l ⟨rfl,i⟩;rw[i];clear i l)|(go_at_call 435;refine(e.out _ t.out).mono ?_;rintro z l ⟨rfl,i⟩;rw[i];clear i l));go_region_with(first|(go_at_call 394;refine(Z.out _ _).mono ?_;rintro z W ⟨rfl,y⟩;have j:=L.drew.kept (Below.kept y []);have B:=j.cell 0 _ rfl;have D:=j.cell 1 _ rfl;have I:=j.cell 2 _ rfl;have J:=j.Wb;have P:=j.lt));all_goals
  have j:=L.drew.kept (Below.kept y []);have B:=j.cell 0 _ rfl;have D:=j.cell 1 _ rfl;have I:=j.cell 2 _ rfl;obtain⟨-,J,P⟩:=id j;have h:=M.out.drew.kept (Below.kept y []);have s:=N.drew.trans ((Below.kept y []).mono F);exact FM):=h
def pA (h:p:=by
 go_enter func429,ntmps429;exact akO):=h
def JW (h:p:=by
 cases ai
 . exact AT
 . cases aj
   . exact AT
   . cases ak
     . exact AT
     . exact pA):=h
def JX (h:p:=by
 rintro j l ⟨rfl,rfl⟩;exact pu):=h
def z8 (h:p:=by
 rintro l m ⟨rfl,a⟩;exact Nu):=h
def JY (h:p:=by
 clear c t s;go_wp2_with fail;refine(Z.out _).mono ?_;rintro j w3 ⟨rfl,rfl⟩;go_wp2_with fail;refine(aa.out _).mono ?_;rintro j z ⟨rfl,rfl⟩;go_wp2_with fail;refine(V.out _).mono ?_;rintro j l ⟨rfl,rfl⟩;go_wp2_with fail;refine(W.out _).mono ?_;rintro j m ⟨rfl,rfl⟩;go_wp2_with fail;refine(X.out _).mono ?_;rintro j p ⟨rfl,rfl⟩;go_wp2_with fail;refine(Y.out _).mono ?_;rintro j y ⟨rfl,rfl⟩;go_wp2_with fail;go_end0;refine⟨rfl,ac.out,?_⟩;repeat(first|with_reducible exact Kept.refl _ _|with_reducible exact ab.out|(with_reducible refine Kept.setCell ?_ (.inl F) _)|(with_reducible refine Kept.drew ?_))):=h
def JZ (h:p:=by
 rw[<-g]at f|-;clear g;go_enter oJ,oK;go_wp2_with fail;refine f.out.mono ?_;rintro p q ⟨rfl,l,j⟩;go_wp2_with fail;go_end0;exact⟨rfl,l,j⟩):=h
def J0 (h:p:=by
 have d1:=w0 b;have l:=jY (b/2);have hd:b/2<=b:=kf;have g:((b-b/2%2*2:Nat):Int)=(b:Int)- ((b/2%2:Nat):Int)*2:=J;rw[g]at a;have m:b/2%2<2:=J;obtain⟨s,j⟩:=y (b/2%2);rw[<-j]at l a m|-;obtain⟨t,k⟩:=y (b/2);rw[<-k]at d1 l hd;clear j k g;exact gZ):=h
def J1 (h:p:=by
 have j:(b:Int).tmod 8=((b%8:Nat):Int):=iy b 8;obtain⟨l,i⟩:=y (b%8);rw[<-i]at j a|-;clear i;exact gZ):=h
def gZ (h:p:=by
 go_enter oJ,oK;exact AU):=h
def J2 (h:p:=by
 have m:(b:Int).tmod 2=((b%2:Nat):Int):=iy b 2;have g:((b-b%2:Nat):Int)=(b:Int)- ((b%2:Nat):Int):=J;rw[g]at a;have l:b%2<2:=J;obtain⟨r,j⟩:=y (b%2);rw[<-j]at m a l|-;clear j g;exact gZ):=h
def akh (h:p:=by
 rintro j l ⟨rfl,rfl⟩;exact AU):=h
def vv (h:p:=by
 rw[<-e]at d a|-;exact akP):=h
def J3 (h:p:=by
 have d:Hid (∀i,O 323 #[j (b:Int),j 546] (j ((b&&&546:Nat):Int)) i):=l (fun i=>fB b 546 o m i);obtain⟨u,e⟩:=y (b&&&546);exact vv):=h
def J4 (h:p:=by
 have D:((aT,aV,aW),ar)=(((0:Int),(2:Int),(H:Int)),a):=w.trans (z R);simp only[bM]at D;obtain⟨⟨rfl,rfl,rfl⟩,rfl⟩:=D;go_wp2_with fail;refine(bK.out _).mono ?_;rintro G I ⟨rfl,l⟩;have j:=W.kept (Below.kept l []);have ad:=j.cell 0 _ rfl;have aM:=j.cell 1 _ rfl;have aN:=j.cell 2 _ rfl;obtain⟨-,aO,aP⟩:=id j;have ab:=aa.out.kept (Below.kept l []);have ae:=J.trans ((Below.kept l []).mono F);exact FO):=h
def aki (h:p:=by
 have bg:((aT,aV,aW),ar)=(((bk:Int),(-1:Int),(0:Int)),dW {a with f:=cf a.f (b:Int) _} p (aC:Int)):=w;simp only[bM]at bg;obtain⟨⟨rfl,rfl,rfl⟩,ax⟩:=bg;have a8:ar.V3=a.V3:=GS;simp only[<-ax]at bi;have ak:=l aa.out.drew;have aA:=y.drew;have bq:=W.drew;go_upto_region 8 with fail;go_region_held3 (fun i=>i.cell? ⟨h,1,none⟩=some (I d)/\i.cell? ⟨n.heap.size,4,none⟩=some (j (b:Int))) (first|exact⟨ak.out.c1,aA.cell 4 _ rfl⟩|exact⟨M.out.c1,L.cell 4 _ rfl⟩) (first|(go_at_call 248;refine(aR.out _ ak.out).mono ?_;rintro ag ce ⟨rfl,z⟩;have M:=l (ak.out.kept (Below.kept z []));have L:=aA.kept (Below.kept z [])));all_goals
  have M:=l (ak.out.kept (Below.kept z []));have L:=aA.kept (Below.kept z []);have bp:=bq.kept (Below.kept z []);have bm:=J.drew.trans ((Below.kept z []).mono F);clear aa y W J ak aA bq bN bP bQ bR bS bT;have am:=l M.out.drew;have aB:=L.drew;have bs:=bp.drew;go_upto_region 9 with fail;go_region_held3 (fun i=>i.cell? ⟨h,1,none⟩=some (I d)/\i.cell? ⟨n.heap.size,4,none⟩=some (j (b:Int))) (first|exact⟨am.out.c1,aB.cell 4 _ rfl⟩|exact⟨P.out.c1,B.cell 4 _ rfl⟩) (first|(go_at_call 430;refine(aQ.out _ am.out).mono ?_;rintro ag cg ⟨rfl,D⟩;have P:=l (am.out.kept (Below.kept D []));have B:=aB.kept (Below.kept D [])));all_goals
   have P:=l (am.out.kept (Below.kept D []));have B:=aB.kept (Below.kept D []);have br:=bs.kept (Below.kept D []);have bn:=bm.drew.trans ((Below.kept D []).mono F);clear M L bp bm am aB bs;have bO:=B.cell 0 _ rfl;have ai:=l P.out.drew;have az:=B.drew;have bo:=br.drew;go_upto_region 16 with(first|(go_at_call 372;refine(bh.out _).mono ?_;rintro ag aU ⟨rfl,R⟩;rw[R];clear R aU)|(go_at_call 360;refine(bj.out _).mono ?_;rintro ag aU ⟨rfl,R⟩;rw[R];clear R aU));go_region_held3 (fun i=>i.cell? ⟨h,1,none⟩=some (I d)/\i.cell? ⟨n.heap.size,4,none⟩=some (j (b:Int))) (first|exact⟨ai.out.c1,az.cell 4 _ rfl⟩|exact⟨aX.out.c1,ay.cell 4 _ rfl⟩) (first|(go_at_call 431;refine(bL.out _ ai.out).mono ?_;rintro ag cd ⟨rfl,bl,G⟩;have aX:=l (ai.out.XE G bl);have ay:=az.more G ad));all_goals
    have aX:=l (ai.out.XE G bl);have ay:=az.more G ad;have bV:=bo.more G ad;have bU:=bn.drew.trans (G.mono F);clear P B br bn ai az bo bO;have cc:=ay.cell 1 _ rfl;go_wp2_with fail;refine(bi.out _ aX).mono ?_;rintro ag bb ⟨rfl,aI,aS⟩;have a9:=ay.more aS ad;have aH:=bV.more aS ad;have ba:=bU.trans (aS.mono F);exact NZ):=h
def akj (h:p:=by
 have aU:((aT,aV,aW),ar)=(((bk:Int),(-1:Int),(0:Int)),dW a p (aC:Int)):=w;simp only[bM]at aU;obtain⟨⟨rfl,rfl,rfl⟩,ax⟩:=aU;have a8:ar.V3=a.V3:=GS;simp only[<-ax]at bt;have R:=l aa.out.drew;have ai:=y.drew;have bg:=W.drew;go_upto_region 8 with fail;go_region_held3 (fun i=>i.cell? ⟨h,1,none⟩=some (I d)/\i.cell? ⟨n.heap.size,4,none⟩=some (j (b:Int))) (first|exact⟨R.out.c1,ai.cell 4 _ rfl⟩|exact⟨M.out.c1,L.cell 4 _ rfl⟩) (first|(go_at_call 248;refine(aR.out _ R.out).mono ?_;rintro am bS ⟨rfl,z⟩;have M:=l (R.out.kept (Below.kept z []));have L:=ai.kept (Below.kept z [])));all_goals
  have M:=l (R.out.kept (Below.kept z []));have L:=ai.kept (Below.kept z []);have be:=bg.kept (Below.kept z []);have bc:=J.drew.trans ((Below.kept z []).mono F);clear aa y W J R ai bg bo bp bq br bs bD;have ag:=l M.out.drew;have ak:=L.drew;have bl:=be.drew;go_upto_region 9 with fail;go_region_held3 (fun i=>i.cell? ⟨h,1,none⟩=some (I d)/\i.cell? ⟨n.heap.size,4,none⟩=some (j (b:Int))) (first|exact⟨ag.out.c1,ak.cell 4 _ rfl⟩|exact⟨P.out.c1,B.cell 4 _ rfl⟩) (first|(go_at_call 430;refine(aQ.out _ ag.out).mono ?_;rintro am bT ⟨rfl,D⟩;have P:=l (ag.out.kept (Below.kept D []));have B:=ak.kept (Below.kept D [])));all_goals
   have P:=l (ag.out.kept (Below.kept D []));have B:=ak.kept (Below.kept D []);have bN:=bl.kept (Below.kept D []);have bJ:=bc.drew.trans ((Below.kept D []).mono F);clear M L be bc ag ak bl;have bQ:=B.cell 0 _ rfl;have bR:=B.cell 1 _ rfl;go_wp2_with(first|(go_at_call 372;refine(bh.out _).mono ?_;rintro am aA ⟨rfl,G⟩;rw[G];clear G aA)|(go_at_call 360;refine(bj.out _).mono ?_;rintro am aA ⟨rfl,G⟩;rw[G];clear G aA));refine(bt.out _ P).mono ?_;rintro am bb ⟨rfl,aI,az⟩;have a9:=B.more az ad;have aH:=bN.more az ad;have ba:=bJ.trans (az.mono F);exact NZ):=h
def J6 (h:p:=by
 go_quiet ((go_at_call 136;exact br (k.out _)));exact py):=h
def J7 (h:p:=by
 go_wp2_with fail;exact akQ):=h
def J8 (h:p:=by
 unfold ag;obtain⟨b,q,r,s,n,o⟩:=i;dsimp only at *;have h:Hid (∀W,O 193 #[j b] (.bool false) W):=yY;subst f;clear a;go_enter oL,oM;go_wp2_with(first|(go_at_call 193;refine(h.out _).mono ?_;rintro p t ⟨rfl,rfl⟩));exact vs):=h
def z9 (h:p:=by repeat(first|(with_reducible exact Kept.refl _ _)|(with_reducible refine Kept.setCell ?_ (ci aL) _)|(with_reducible refine Kept.drew ?_)|(with_reducible refine Kept.drewN ?_ _)|(with_reducible refine Kept.alloc ?_ _)|(with_reducible refine Kept.trans ?_ (e.mono F))|(with_reducible refine Kept.trans ?_ (b.mono F)))):=h
def J9 (h:p:=by
 have A:=a.out.lt;have B:=e.Xu;have C:=e.Xv;have t:=k.WE i.V1;have u:=k.WE i.V6;have n:=l (fun W h=>bV d f c i.V1 e.V1 W h);have s:=l (fun W h=>bV d f c i.V6 e.V6 W h);have j:=l (fun W h=>li d f c k.V3 i e W h);have m:Hid (E (g.alloc (az i)) d f c):=b7;obtain⟨w,o⟩:=y (c.x.getD i.V1 0);obtain⟨x,p⟩:=y (c.x.getD i.V6 0);simp only[<-o]at t n|-;simp only[<-p]at u s|-;obtain⟨z,q⟩:=y (de c.V3 i);simp only[<-q]at j|-;unfold az at m;unfold ag at j|-;obtain⟨H,I,J,K,D,G⟩:=i;dsimp only at *;subst r;clear a k e o p q;go_enter func197,ntmps197;go_wp2_with fail;refine(n.out _ m).mono ?_;rintro v L ⟨rfl,rfl⟩;go_wp2_with fail;refine(j.out _ m).mono ?_;rintro v M ⟨rfl,b⟩;exact J7):=h
def jG (h:p:=by repeat(first|(with_reducible exact Kept.refl _ _)|(with_reducible refine Kept.setCell ?_ (hz F) _)|(with_reducible refine Kept.drew ?_)|(with_reducible refine Kept.drewN ?_ _)|(with_reducible refine Kept.alloc ?_ _))):=h
def ng (h:p:=by repeat(first|(with_reducible exact Kept.refl _ _)|(with_reducible refine Kept.setCell ?_ (ci aL) _)|(with_reducible refine Kept.drew ?_)|(with_reducible refine Kept.drewN ?_ _)|(with_reducible refine Kept.alloc ?_ _)|(with_reducible refine Kept.trans ?_ (b.mono F)))):=h
def Ka (h:p:=by
 obtain⟨bU,bV,cD,cY,cZ,c0,c1,c6,c7,c2,c8,c3,c9,c4,da,c5⟩:a8 w3 g.heap.size T U V X Q R:=HN;obtain⟨db,dc,dd,di,dj,de,dk,df,dl,dg,dm,dh⟩:av w3 (g.heap.size+1) 0 0:=rR;obtain⟨i,y,z,aS,aU,B,a2,E,ba,I,br,M⟩:av w3 s.heap.size f d:=rR;go_wp2_with fail;exact ND):=h
def Kb (h:p:=by
 clear t;go_enter func200,ntmps200;go_upto_region 1 with fail;go_quiet ((first|(go_at_call 40;first|exact br (ae.out _ M)|exact br (ae.out _ (l (M.out.drewN _)))|exact br (ae.out _ (l M.out.drew)))|(go_at_call 136;exact br (ap.out _))));go_wp2_with(go_at_call 269;refine(P.out _).mono ?_;rintro z y ⟨rfl,rfl⟩);refine(D.out _ (l (M.out.drewN _))).mono ?_;rintro z i ⟨rfl,B,b⟩;obtain⟨bt,b8,ca,cc,cg,cj,cl,cv,cw,cn,cx,co,cy,cp,cz,cq⟩:a8 i g.heap.size s V X Y T U:=m5;obtain⟨cF,cH,cJ,cT,cU,cL,cV,cM,cW,cN,cX,cO⟩:av i (g.heap.size+1) 0 0:=lQ;have aS:=l ((((B.alloc (.cells #[j f,j d] 231)).alloc (.cells #[j Z,j 0] 231)).alloc (.cells #[j (-1),j 0] 118)).alloc (.cells #[j (-1),j 0] 118));go_wp2_with(first|(go_at_call 83;refine(cd _ _ _).mono ?_;rintro z df ⟨rfl,rfl⟩));refine(ah.out _ aS).mono ?_;rintro z y ⟨rfl,aU,e⟩;obtain⟨b7,b9,cb,cf,ch,ck,cm,cA,cB,cr,cC,cs,cD,ct,cE,cu⟩:a8 y g.heap.size s V X Y T U:=u7;obtain⟨cG,cI,cK,cY,cZ,cP,c0,cQ,c1,cR,c2,cS⟩:av y (g.heap.size+1) 0 0:=pn;obtain⟨a2,bh,bi,bn,bo,bj,bp,bk,bq,bl,bs,bm⟩:av y i.heap.size f d:=po;obtain⟨c3,c4,c5,da,db,c6,dc,c7,dd,c8,de,c9⟩:av y (i.heap.size+1) Z 0:=pp;go_wp2_with fail;refine(Fw k Z _).mono ?_;rintro z w3 ⟨rfl,h⟩;have ay:=aU.kept h;exact NE):=h
def Kc (h:p:=by
 clear t;go_enter func200,ntmps200;go_upto_region 1 with fail;go_quiet ((first|(go_at_call 40;first|exact br (aq.out _ ae)|exact br (aq.out _ (l (ae.out.drewN _)))|exact br (aq.out _ (l ae.out.drew)))|(go_at_call 136;exact br (aG.out _))));go_wp2_with(go_at_call 269;refine(P.out _).mono ?_;rintro B y ⟨rfl,rfl⟩);refine(aa.out _ (l (ae.out.drewN _))).mono ?_;rintro B i ⟨rfl,aS,b⟩;obtain⟨cm,co,cq,cs,cu,cw,cy,cI,cJ,cA,cK,cB,cL,cC,cM,cD⟩:a8 i g.heap.size s V X Y T U:=m5;obtain⟨cS,cU,cW,c6,c7,cY,c8,cZ,c9,c0,da,c1⟩:av i (g.heap.size+1) 0 0:=lQ;have aU:=l ((((aS.alloc (.cells #[j f,j d] 231)).alloc (.cells #[j K,j D] 231)).alloc (.cells #[j (-1),j 0] 118)).alloc (.cells #[j (-1),j 0] 118));go_wp2_with(first|(go_at_call 83;refine(cd _ _ _).mono ?_;rintro B dt ⟨rfl,rfl⟩));refine(ar.out _ aU).mono ?_;rintro B y ⟨rfl,a2,e⟩;obtain⟨cn,cp,cr,ct,cv,cx,cz,cN,cO,cE,cP,cF,cQ,cG,cR,cH⟩:a8 y g.heap.size s V X Y T U:=u7;obtain⟨cT,cV,cX,db,dc,c2,dd,c3,de,c4,df,c5⟩:av y (g.heap.size+1) 0 0:=pn;obtain⟨b7,b8,b9,cg,ch,ca,cj,cb,ck,cc,cl,cf⟩:av y i.heap.size f d:=po;obtain⟨dg,dh,di,dn,dp,dj,dq,dk,dr,dl,ds,dm⟩:av y (i.heap.size+1) K D:=pp;go_wp2_with fail;refine(ad.out _ (l a2)).mono ?_;rintro B w3 ⟨rfl,ay,h⟩;exact NE):=h
def r0 (h:p:=by repeat(first|(with_reducible exact Kept.refl _ _)|(with_reducible refine Kept.Xb ?_ _ _)|(with_reducible refine Kept.setCell ?_ (ci aL) _)|(with_reducible refine Kept.drew ?_)|(with_reducible refine Kept.drewN ?_ _)|(with_reducible refine Kept.alloc ?_ _)|(with_reducible refine Kept.trans ?_ (h.mono F))|(with_reducible refine Kept.trans ?_ (e.mono F))|(with_reducible refine Kept.trans ?_ (b.mono F)))):=h
def Aa (h:p:=by
 rintro l y ⟨rfl,i,e⟩;exact akR):=h
def Kd (h:p:=by
 clear r;go_enter func277,ntmps277;go_upto_region 5 with fail;go_region_with(first|(go_at_call 256;refine(G.out _).mono ?_;rintro m p ⟨rfl,rfl⟩)|(go_at_call 198;refine(H.out _ (l K.out.drew)).mono ?_;rintro m p ⟨rfl,j,b⟩));all_goals
  go_wp2_with fail;refine(J.out _ (l j)).mono ?_;exact Aa):=h
def Ke (h:p:=by
 refine ac (v:=.agg #[j V,j p]) (by simp[results,results202,go_sem,X,Y,ae,ah,Z,ai,aa,aj,ab,al,ad,ej,fb]) rfl ⟨rfl,G.box (e.heap.size+1) ?_ m m,?_⟩
 . exact jG
 . exact ng):=h
def Ab (h:p:=by
 obtain⟨a9,ba,bb,bh,bi,bd,bj,be,bk,bf,bl,bg⟩:av s (n.heap.size+1) 0 0:=ih;have i:=l ((L.alloc (.cells #[j (-1),j 0] 118)).alloc (.cells #[j (-1),j 0] 118));go_wp2_with(first|(go_at_call 83;refine(cd _ _ _).mono ?_;rintro p bn ⟨rfl,rfl⟩)|(go_at_call 262;refine(K.out _ i).mono ?_;rintro p bm ⟨rfl,rfl⟩));refine(q.out _ i).mono ?_;rintro p y ⟨rfl,B,e⟩;obtain⟨E,I,bc,S,W,J,af,M,ag,N,ak,O⟩:av y (n.heap.size+1) 0 0:=u8;obtain⟨an,az,aJ,a4,a5,aS,a6,aU,a7,a1,a8,a3⟩:av y s.heap.size (-1) 0:=zl;go_wp2_with fail;refine ac (v:=.agg #[j (-1),j 0]) (by simp[results,results202,go_sem,E,I,S,W,J,af,M,ag,N,ak,O,ej,fb]) rfl ⟨rfl,B.box (n.heap.size+1) ?_ m m,?_⟩
 . exact jG
 . exact pD):=h
def Ac (h:p:=by
 clear k g;exact Kf):=h
def nh (h:p:=by
 have q:=g.out.lt;have HR:=l (jN g.out);obtain⟨i,e⟩:=y (fr a);rw[<-e]at HR;have o:=l e;have h:i.toArray.size=23:=lL;clear e;exact Ac):=h
def Kf (h:p:=by
 go_enter func317,ntmps317;exact NF):=h
def io (h:p:=by
 have q:=g.out.lt;have HR:=l (jN g.out);obtain⟨i,e⟩:=y (fr a);rw[<-e]at HR;have o:=l e;have h:i.toArray.size=23:=lL;clear e;clear k g;go_enter func318,ntmps318;exact NF):=h
def Ad (h:p:=by
 clear i;go_enter func318,ntmps318;go_upto_region 1 with fail;refine gj ?_;refine wpList_plain rfl (fun g f=>?_);go_simp;refine f _ _ ?_;clear f g;refine wpList_plain rfl (fun g f=>?_);go_simp;refine f _ _ ?_;clear f g;refine wpList_plain rfl (fun g f=>?_);go_simp;refine f _ _ ?_;clear f g;refine ra rfl _ _ rfl q 38 (by rfl) k _ HR.out rb rfl uy ?_;refine wpList_plain rfl (fun g f=>?_);go_simp;refine f _ _ ?_;clear f g;refine gl rfl _ _ _ rfl b.heap.size 0 k.toArray rfl rfl uz uA uB ?_;obtain⟨y,l,w,v⟩:=sr b (#[j 0,j 0,j 0,j 0,j 0,j 0,j 0,j 0,j 0,j 0,j 0,j 0,j 0,j 0,j 0,j 0,j 0,j 0,j 0,j 0,j 0,j 0,j 0]) 71 k.toArray h;rw[<-l];clear l;clear w;refine gm ?_;go_wp2_with fail;go_ret2;exact⟨by rw[p.out]<;>rfl,v⟩):=h
def Kg (h:p:=by
 clear e;exact pC):=h
def Kh (h:p:=by
 have y:((b:Int)==0)=false:=M;have z:((b:Int)==1)=false:=M;have B:((b:Int)==2)=false:=M;clear f g h;exact pC):=h
def pC (h:p:=by exact FN):=h
def Ki (h:p:=by
 rw[B ⟨rfl,i⟩];have y:decide ((a:Int)<3072)=true:=M;exact NG):=h
def Kj (h:p:=by
 have y:decide ((a:Int)<3072)=false:=M;exact NG):=h
def Ae (h:p:=by
 go_ret2;exact⟨rfl,u⟩):=h
def Kk (h:p:=by
 go_end0;exact⟨rfl,c.out.set 38 _ rfl rfl m,(Kept.refl _ _).setCell (.inl F) _⟩):=h
def r1 (h:p:=by
 go_wp2_with fail;go_end0;exact⟨rfl,rfl⟩):=h
def Af (h:p:=by
 rintro j w ⟨rfl,rfl⟩;exact rZ):=h
def Kl (h:p:=by
 skip;clear a d m w x k A C q v P;go_enter func204,ntmps204;go_wp2_with(go_at_call 40;refine(O.out _ p).mono ?_;rintro i G ⟨rfl,rfl⟩);refine(o.out _ p).mono ?_;rintro i z ⟨rfl,b⟩;have r:=l (p.out.kept b);obtain⟨I,V,X,Z,ab,ae,ag,aq,ar,ai,au,aj,av,ak,aw,al⟩:a8 z f.heap.size t u K L H J:=iX;go_wp2_with fail;refine(h.out _ r).mono ?_;rintro i E ⟨rfl,y,e⟩;obtain⟨N,W,Y,aa,ad,af,ah,ax,ay,am,az,an,aA,ao,aB,ap⟩:a8 E f.heap.size t u K L H J:=zm;go_wp2_with(go_at_call 135;refine(j.out _).mono ?_;rintro i G ⟨rfl,rfl⟩);refine ac (q8 rfl _ _ _) rfl ?_;refine⟨rfl,y.alloc _,?_⟩;exact pD):=h
def Kn (h:p:=by
 have z:(P==836)=false:=by simp[A]
 exact NH):=h
def Ko (h:p:=by
 have m:(P==836)=true:=by simp[A]
 exact NH):=h
def Kp (h:p:=by
 go_wp2_with fail;go_ret;exact⟨rfl,(Kept.refl _ _).drewN _⟩):=h
def Kq (h:p:=by
 go_ret;exact⟨rfl,Kept.refl _ _⟩):=h
def Kr (h:p:=by
 go_wp2_with fail;exact Kq):=h
def Ks (h:p:=by
 go_enter func205,ntmps205;exact Kr):=h
def Kt (h:p:=by
 refine(x.out _ (l ((a.out.set (X':={e with mode:=s}) 34 _ rfl rfl m).set 38 _ rfl rfl m))).mono ?_;rintro r y ⟨rfl,j,b⟩;go_wp2_with fail;go_end0;refine⟨rfl,j,?_⟩;exact vx):=h
def Ag (h:p:=by repeat(first|(with_reducible exact Kept.refl _ _)|(with_reducible refine Kept.Xb ?_ _ _)|(with_reducible refine Kept.setCell ?_ (ci aL) _)|(with_reducible refine Kept.drew ?_)|(with_reducible refine Kept.drewN ?_ _)|(with_reducible refine Kept.alloc ?_ _))):=h
def Ku (h:p:=by exact⟨rfl,u,(Kept.trans (((Kept.refl _ _).alloc _).drewN _) (t.mono F))⟩):=h
def Kv (h:p:=by
 go_enter func39,ntmps39;go_wp2_with fail;all_goals
  go_end0;refine⟨rfl,?_,?_⟩
  . first|exact f.out|exact f.out.drew|exact f.out.drew.drew
  . exact Ag):=h
def Kx (h:p:=by
 go_enter func39,ntmps39;go_wp2_with(go_at_call 86;refine(i.out _).mono ?_;rintro y E ⟨rfl,b⟩;have f:=l (e.out.kept (Kept.trans F8 b));have d57:=f.out.Yb;have d58:=f.out.Yc;have d59:=f.out.XG;have d60:=f.out.XH;have j:=f.out.Wb);all_goals
  go_end0;refine⟨rfl,?_,?_⟩
  . first|exact((f.out.set (X':={a with c:={a.c with Wy:=g}}) 57 _ rfl rfl m).set (X':={a with c:={a.c with Wy:=g,WN:=v1}}) 58 _ rfl rfl m)|exact((f.out.set (X':={a with c:={a.c with Wy:=g}}) 57 _ rfl rfl m).set (X':={a with c:={a.c with Wy:=g,WN:=v1}}) 58 _ rfl rfl m).drew|exact((f.out.set (X':={a with c:={a.c with Wy:=g}}) 57 _ rfl rfl m).set (X':={a with c:={a.c with Wy:=g,WN:=v1}}) 58 _ rfl rfl m).drew.drew
  . exact vx):=h
def pD (h:p:=by repeat(first|(with_reducible exact Kept.refl _ _)|(with_reducible refine Kept.Xb ?_ _ _)|(with_reducible refine Kept.setCell ?_ (ci aL) _)|(with_reducible refine Kept.drew ?_)|(with_reducible refine Kept.drewN ?_ _)|(with_reducible refine Kept.alloc ?_ _)|(with_reducible refine Kept.trans ?_ (e.mono F))|(with_reducible refine Kept.trans ?_ (b.mono F)))):=h
def Ky (h:p:=by
 clear b;go_enter func74,ntmps74;exact cn):=h
def vx (h:p:=by repeat(first|(with_reducible exact Kept.refl _ _)|(with_reducible refine Kept.Xb ?_ _ _)|(with_reducible refine Kept.setCell ?_ (ci aL) _)|(with_reducible refine Kept.drew ?_)|(with_reducible refine Kept.drewN ?_ _)|(with_reducible refine Kept.alloc ?_ _)|(with_reducible refine Kept.trans ?_ (b.mono F)))):=h
def pE (h:p:=by(go_wp2_with(first|(go_at_call 135;refine(s.out _).mono ?_;rintro m y ⟨rfl,rfl⟩)|(go_at_call 279;refine(P.out _ (l (by first|exact t.out|exact t.out.alloc _))).mono ?_;rintro m r ⟨rfl,i⟩));go_ret;refine⟨rfl,?_⟩;repeat(first|(with_reducible exact ae.out)|(with_reducible exact i)|(with_reducible refine Kept.trans ?_ i)|(with_reducible refine Kept.alloc ?_ _)|(with_reducible exact Kept.refl _ _)))):=h
def Kz (h:p:=by
 cases t4
 . exact NI
 . cases t5
   . exact NI
   . exact pE):=h
def KA (h:p:=by
 have X:decide (a<=18)=true:=M;exact KB):=h
def KB (h:p:=by
 have au:decide (a<=60)=true:=M;exact akT):=h
def vy (h:p:=by repeat(first|(with_reducible exact c.out)|(with_reducible refine E.alloc ?_ _))):=h
def r2 (h:p:=by repeat(first|(with_reducible exact Kept.refl _ _)|(with_reducible refine Kept.setCell ?_ (ci aL) _)|(with_reducible refine Kept.drew ?_)|(with_reducible refine Kept.drewN ?_ _)|(with_reducible refine Kept.alloc ?_ _))):=h
def KD (h:p:=by
 clear g h;exact akU):=h
def KE (h:p:=by
 have o:=c.out.lt;have n:Hid (E ((e.alloc (az i)).alloc (.cells #[j 0,j 0] 118)) a d b):=cD;have HR:=l (fun W=>gL i.op W);have f:=l (fun W=>fD i.op W);simp only[show bv i.op=false by unfold bv;simp;omega,show decide (5<=i.op/\i.op<=10)=false by simp;omega]at HR f;unfold az at n;unfold ag aS;obtain⟨r,s,t,u,p,q⟩:=i;dsimp only at *;subst k;exact KD):=h
def KF (h:p:=by
 have G:(a==38)=false:=M;have H:(a==39)=false:=M;have I:(a==40)=false:=M;have J:(a==41)=false:=M;clear k m;go_enter func134,ntmps134;go_wp2_with(first|(go_at_call 196;refine(HR.out _).mono ?_;rintro i l ⟨rfl,rfl⟩)|(go_at_call 193;refine(g.out _).mono ?_;rintro i l ⟨rfl,rfl⟩));refine ac (v:=.agg #[j 2,j b]) uD rfl ⟨rfl,?_,?_⟩
 . exact vy
 . exact r2):=h
def KG (h:p:=by
 go_enter func134,ntmps134;exact akV):=h
def KH (h:p:=by
 have a5:(a==38)=false:=M;have a6:(a==39)=false:=M;have a7:(a==40)=false:=M;have a9:(a==41)=false:=M;clear q z w c;exact KG):=h
def KI (h:p:=by
 have ap:(a==38)=false:=M;have aq:(a==39)=false:=M;have ar:(a==40)=false:=M;have au:(a==41)=false:=M;clear p s c q;go_enter func134,ntmps134;go_wp2_with(first|(go_at_call 196;refine(HR.out _).mono ?_;rintro i L ⟨rfl,rfl⟩)|(go_at_call 193;refine(o.out _).mono ?_;rintro i L ⟨rfl,rfl⟩));refine(g.out _ n).mono ?_;rintro i l ⟨rfl,b⟩;have z:=n.out.kept b;obtain⟨W,Z,aa,ab,ad,ae,af,ak,al,ag,am,ah,an,ai,ao,aj⟩:a8 l d.heap.size a v w x t u:=jC;obtain⟨r,A,aw,G,H,B,I,C,J,D,K,E⟩:av l (d.heap.size+1) 0 0:=ih;go_wp2_with fail;refine ac (v:=.agg #[j 2,j h]) Gt rfl ⟨rfl,z.box (d.heap.size+1) ?_ m m,?_⟩
 . exact jG
 . exact ng):=h
def KJ (h:p:=by
 clear b;go_enter func26,ntmps26;exact ik):=h
def r3 (h:p:=by
 go_ret2;exact⟨rfl,rfl⟩):=h
def KK (h:p:=by
 go_enter func170,ntmps170;go_wp2_with(go_at_call 246;refine h.out.mono ?_;rintro l n ⟨rfl,j⟩);go_ret2;exact⟨rfl,j⟩):=h
def KL (h:p:=by
 simp only;split
 . next d=>rw[z (by omega)];rw[d]at c;omega
 . next d=>
   split
   . next e=>rw[e]at c;omega
   . omega):=h
def KN (h:p:=by
 have e:=C.tk (C.ah a.data.toList a.size) W;unfold da;rw[C.p1];split<;>omega):=h
def vz (h:p:=by
 go_enter func121,ntmps121;exact ik):=h
def KO (h:p:=by repeat(first|(with_reducible exact z)|(with_reducible refine E.alloc ?_ _)|(with_reducible refine E.drew ?_)|(with_reducible refine E.Yq ?_)|(with_reducible refine E.other _ _ _ ?_ m m))):=h
def Ah (h:p:=by repeat(first|(with_reducible exact Kept.refl _ _)|(with_reducible refine Kept.Xb ?_ _ _)|(with_reducible refine Kept.setCell ?_ (ci aL) _)|(with_reducible refine Kept.drew ?_)|(with_reducible refine Kept.drewN ?_ _)|(with_reducible refine Kept.alloc ?_ _)|(with_reducible refine Kept.trans ?_ (G.mono F))|(with_reducible refine Kept.trans ?_ (h.mono F))|(with_reducible refine Kept.trans ?_ (e.mono F))|(with_reducible refine Kept.trans ?_ (b.mono F)))):=h
def KP (h:p:=by
 go_wp2_with fail;refine(a5.out _ _ _ aI).mono ?_;rintro aU ba ⟨rfl,ai,R⟩;have aq:=aa.more R ad;have ar:=aH.more R ad;have ag:=aG.trans (R.mono F);have r:=ai;have y:=aq;have l:=ar;have z:=ag;exact NJ):=h
def KQ (h:p:=by
 rw[z ab]at a;simp only[bM]at a;obtain⟨⟨rfl,rfl,rfl⟩,rfl⟩:=a;have R:((au:Int) !=0)=true:=M;go_wp2_with(go_at_call 364;refine(bP.out _).mono ?_;rintro r y ⟨rfl,l⟩;rw[l];clear l y);refine(bu.out _ _ _).mono ?_;rintro r W ⟨rfl,j⟩;have i:=af.kept (Below.kept j []);have h:=E.out.kept (Below.kept j []);have s:=ae.trans ((Below.kept j []).mono F);exact NK):=h
def KR (h:p:=by
 rw[z ah]at a;simp only[bM]at a;obtain⟨⟨rfl,rfl,rfl⟩,rfl⟩:=a;have r:((o:Int) !=0)=true:=M;go_wp2_with fail;refine(bu.out _ _ _).mono ?_;rintro l y ⟨rfl,j⟩;have i:=aw.kept (Below.kept j []);have h:=ax.out.kept (Below.kept j []);have s:=av.trans ((Below.kept j []).mono F);exact NK):=h
def KS (h:p:=by
 have R:=aJ.c5;have ag:=aJ.Wb;have r:=aJ.YA 0;have y:=aq.more (F:=[c]) ((Kept.refl [c] a6).Xb 5 (j ((0:Nat):Int))) ad;have l:=ar.more (F:=[c]) ((Kept.refl [c] a6).Xb 5 (j ((0:Nat):Int))) ad;have z:=bv.Xb 5 (j ((0:Nat):Int));rw[show((0:Nat):Int)=0 from rfl]at r y l z;exact NJ):=h
def KT (h:p:=by repeat(first|(with_reducible exact ab)|(with_reducible refine V.alloc ?_ _)|(with_reducible refine V.drew ?_)|(with_reducible refine V.other _ _ _ ?_ m m m m m))):=h
def KU (h:p:=by exact ae.setCell (ci aL) _ |>.setCell (ci aL) _ |>.setCell (ci aL) _):=h
def KW (h:p:=by
 obtain⟨c,p,r,s,rfl,rfl,j⟩:=hrel;cases p with
 |zero=>
  go_wp2;go_ret;refine⟨⟨c%2,by go_num,by omega,?_⟩,rfl⟩;show c%2=_;have:=j.out;rw[lq,ou]at this;rw[this]
 |succ i=>
  go_wp2;go_round;case rel=>exact⟨c/2,i,by omega,by omega,by go_num,by go_num,(by rw[gP,<-uj];exact j.out:c/2/2^i=W/2^a)⟩
  case measure=>simp[intOf]<;>omega):=h
def KX (h:p:=by exact⟨W,a,aB _,k,rfl,rfl,rfl⟩):=h
def KY (h:p:=by
 go_wp2;exact zt):=h
def Ai (h:p:=by
 go_wp2;go_round;case rel=>exact⟨i,c/2,by omega,by omega,by go_num,by go_num,k⟩
 case measure=>simp[intOf]):=h
def KZ (h:p:=by
 go_wp2;go_ret;exact⟨by rw[k.out];rfl,rfl⟩):=h
def Aj (h:p:=by
 clear c1;exact NL):=h
def K0 (h:p:=by
 have r:((a[i].toNat:Int)==66)=true:=by rw[bb];exact c2
 clear c2 c1;exact NL):=h
def K1 (h:p:=by
 have r:=Er (c:=a[i]) g f e;clear c1 c2;exact Am):=h
def Ak (h:p:=by
 obtain rfl:i=a.size:=by omega
 rw[tP,lq,ou]at e;go_wp2;go_ret2;exact⟨⟨c,b,rfl,o,p,e⟩,rfl⟩):=h
def Al (h:p:=by exact⟨0,0,0,by omega,rfl,rfl,rfl,⟨rfl,rfl⟩⟩):=h
def Am (h:p:=by
 go_wp2;exact akW):=h
def An (h:p:=by
 rintro q s ⟨⟨r,b,rfl,o,p,d⟩,rfl⟩;have HR:=cG (UT (g:=g) d);clear d;by_cases e:b=0
 . subst e;exact NM
 . have m:((b:Int)==0)=false:=gV;by_cases f:b=3
   . subst f;exact NM
   . have n:((b:Int)==3)=false:=gV;go_wp2;go_ret;exact⟨congrArg (fun l=>Ending.returned (j l)) (by rw[HR.out,z e,z f]),rfl⟩):=h
def Ao (h:p:=by
 go_wp2;go_round;case rel=>exact⟨i+1,d,by omega,by go_num,by go_num,by simpa using c⟩
 case measure=>exact a5):=h
def K3 (h:p:=by
 go_wp2;go_round;case rel=>exact⟨i+1,d+(p:Int),by omega,by go_num,by go_num,c⟩
 case measure=>exact a5):=h
def jH (h:p:=by
 rcases b with rfl|rfl|rfl|rfl|rfl|rfl|rfl;all_goals
  go_enter func141,ntmps141;go_wp2;exact ac (v:=dy (aX.word _)) (by simp[results,results141,go_sem,dy,aX.word]) rfl ⟨rfl,by repeat(first|exact aq _ _|refine bf ?_ F _|refine bl ?_ F _)⟩):=h
def Ap (h:p:=by
 rcases b with rfl|rfl|rfl|rfl|rfl|rfl|rfl;all_goals
  exact K4):=h
def K4 (h:p:=by
 go_enter func143,ntmps143;exact akX):=h
def K5 (h:p:=by
 go_wp2;exact akY):=h
def r4 (h:p:=by
 have x:=Br w (c.trans n) f;clear c f;exact K5):=h
def r5 (h:p:=by
 have i:=cG (Po w (c.trans n) f);clear c f;go_wp2;go_ret;exact⟨by rw[i.out];rfl,((aq _ _).alloc (aB _) _).alloc F _⟩):=h
def Ar (h:p:=by
 go_enter func88,ntmps88;go_wp2;exact ac (v:=.tuple #[.agg #[j 0,j 0,j 0,j 0,j 0,j 0],j 2]) (by simp[results,results88,go_sem]) rfl ⟨rfl,(aq _ _).alloc (aB _) _⟩):=h
def K7 (h:p:=by
 have m:=cG o;simp only[if_true];rw[<-o];clear o;simp only[aW];go_wp2;refine ac (v:=.tuple #[.agg #[j i.op,j i.rd,j i.V1,j i.V6,j i.V2,j i.V4],j 0]) (by simp[results,results88,go_sem,e,f,g,h,k,l,p]) rfl ⟨⟨i,rfl,?_⟩,?_⟩
 . show i=_;rw[d.out,m.out];rfl
 . exact JN):=h
def K8 (h:p:=by
 go_ret;exact⟨rfl,E⟩):=h
def As (h:p:=by
 simp only[if_true,cS,ei,<-h.out.1];clear h;go_enter func313,ntmps313;go_wp2_with fail;refine(t.out _).mono ?_;rintro j l ⟨rfl,rfl⟩;go_wp2_with fail;refine(M.out _).mono ?_;rintro j m ⟨rfl,rfl⟩;go_wp2_with fail;go_ret;refine⟨rfl,Y.out,?_⟩;exact pt):=h
def At (h:p:=by
 simp only[if_true,cS,ei,<-h.out.2];clear h;go_enter func313,ntmps313;go_wp2_with fail;refine(u.out _).mono ?_;rintro j l ⟨rfl,rfl⟩;go_wp2_with fail;refine(M.out _).mono ?_;rintro j m ⟨rfl,rfl⟩;go_wp2_with fail;go_ret;refine⟨rfl,N.out,?_⟩;exact pt):=h
def K9 (h:p:=by
 cases r
 . have q:(decide (a.held%2=0)&&!a.W6)=false:=ib;have f1:=sy q;have s:(false&&decide (a.held/4%2=0)&&!a.W7)=false:=ic;have f2:c6 a false=a:=by
    unfold c6;rw[f1];exact nH (C:=a) s
   exact NN
 . cases H
   . exact NO
   . cases wi
     . by_cases o:a.ret+1=4294967296
       . have q:(decide (a.held%2=0)&&!a.W6)=false:=ib;have f1:=sy q;have s:(true&&decide (a.held/4%2=0)&&!a.W7)=true:=ic;have f2:c6 a true={a with ret:=0,We:=(a.We+1)%4294967296}:=by
          unfold c6;rw[f1];exact ww (C:=a) s o
         rw[f2];have b:=l (((d.out.set (C':={a with ret:=0}) 34 (j 0) rfl m).set (C':={a with ret:=0,We:=(a.We+1)%4294967296}) 35 (j (((a.We+1)%4294967296:Nat):Int)) rfl m));have c:=l ((((d.out.set (C':={a with ret:=a.ret+1}) 34 (j ((a.ret+1:Nat):Int)) rfl m).set (C':={a with ret:=0}) 34 (j 0) rfl m).set (C':={a with ret:=0,We:=(a.We+1)%4294967296}) 35 (j (((a.We+1)%4294967296:Nat):Int)) rfl m));have v:((a.Wa+1:Nat):Int)=(a.Wa:Int)+1:=J;have w:((a.ret+1:Nat):Int)=(a.ret:Int)+1:=J;have x:(((a.Wg+1)%4294967296:Nat):Int)=((a.Wg:Int)+1)%4294967296:=J;have y:(((a.We+1)%4294967296:Nat):Int)=((a.We:Int)+1)%4294967296:=J;try rw[x]at b
         try rw[x]at c
         try rw[y]at b
         try rw[y]at c
         try rw[v]at b
         try rw[v]at c
         try rw[w]at b
         try rw[w]at c
         have O:((a.ret:Int)+1==4294967296)=true:=jz;exact NP
       . have q:(decide (a.held%2=0)&&!a.W6)=false:=ib;have f1:=sy q;have s:(true&&decide (a.held/4%2=0)&&!a.W7)=true:=ic;have f2:c6 a true={a with ret:=a.ret+1}:=by
          unfold c6;rw[f1];exact wv (C:=a) s o
         rw[f2];have b:=l ((d.out.set (C':={a with ret:=a.ret+1}) 34 (j ((a.ret+1:Nat):Int)) rfl m));have c:=l ((d.out.set (C':={a with ret:=a.ret+1}) 34 (j ((a.ret+1:Nat):Int)) rfl m));have v:((a.Wa+1:Nat):Int)=(a.Wa:Int)+1:=J;have w:((a.ret+1:Nat):Int)=(a.ret:Int)+1:=J;have x:(((a.Wg+1)%4294967296:Nat):Int)=((a.Wg:Int)+1)%4294967296:=J;have y:(((a.We+1)%4294967296:Nat):Int)=((a.We:Int)+1)%4294967296:=J;try rw[x]at b
         try rw[x]at c
         try rw[y]at b
         try rw[y]at c
         try rw[v]at b
         try rw[v]at c
         try rw[w]at b
         try rw[w]at c
         have O:((a.ret:Int)+1==4294967296)=false:=gV;exact NP
     . exact NO):=h
def La (h:p:=by
 rw[f2];exact akZ):=h
def Lb (h:p:=by
 have e:(decide (a.held%2=0)&&!a.W6)=true:=ib;have f1:=sz e p;have f:(true&&decide (a.held/4%2=0)&&!a.W7)=false:=ic;have f2:c6 a true={a with Wa:=0,Wg:=(a.Wg+1)%4294967296}:=by
  unfold c6;rw[f1];exact nH (C:={a with Wa:=0,Wg:=(a.Wg+1)%4294967296}) f
 exact La):=h
def Lc (h:p:=by
 have j:((a.ret:Int)+1==4294967296)=true:=jz;exact NQ):=h
def Ld (h:p:=by
 have j:((a.ret:Int)+1==4294967296)=false:=gV;exact NQ):=h
def Le (h:p:=by
 rw[f2];exact ak0):=h
def Lf (h:p:=by
 have e:(decide (a.held%2=0)&&!a.W6)=true:=ib;have f1:=sx e p;have f:(true&&decide (a.held/4%2=0)&&!a.W7)=false:=ic;have f2:c6 a true={a with Wa:=a.Wa+1}:=by
  unfold c6;rw[f1];exact nH (C:={a with Wa:=a.Wa+1}) f
 exact Le):=h
def Lg (h:p:=by
 rcases aT with ah|⟨J,ah,aS⟩
 . rw[ah]at Z;rw[B ah]at e;rcases aQ with rfl|⟨u,rfl,aR⟩
   . rw[B rfl]at e;have E:((d0,d1),ar)=(((0:Int),(0:Int)),{k with V3:=i}):=e;simp only[bM]at E;obtain⟨⟨rfl,rfl⟩,rfl⟩:=E;clear e;go_wp2_with fail;refine(Z.out _ M.out).mono ?_;rintro R w3 ⟨rfl,s⟩;have q:=l (M.out.kept (Below.kept s []));have I:=ak.kept (Below.kept s []);have Q:=aj.trans ((Below.kept s []).mono F);have aG:=q.out.c1;have aH:=q.out.c3;go_wp2_with fail;refine(af.out _ q).mono ?_;rintro R ai ⟨rfl,y,D⟩;have S:=l (y.alloc (.cells #[j i,j (-1),j n] 245));have aK:=(I.more D ad).alloc (.cells #[j i,j (-1),j n] 245);have aI:=(Q.trans D).alloc (.cells #[j i,j (-1),j n] 245);have aa:=bg.new ai [j i,j (-1),j n] 245;have aO:=y.c3;have aP:=y.Wb;have aU:=y.lt;have h:=(y.Yq i).alloc (.cells #[j i,j (-1),j n] 245);have L:=((I.more D ad).more (F:=[b]) ((Kept.refl [b] ai).Xb 3 (j (i:Int))) ad).alloc (.cells #[j i,j (-1),j n] 245);have ab:=((Q.trans D).Xb 3 (j (i:Int))).alloc (.cells #[j i,j (-1),j n] 245);exact Lh
   . rw[z (by omega)]at e;have E:((d0,d1),ar)=(((1:Int),(u:Int)),{k with f:=hW k.f u false k.V3 n,V3:=hX k.f u false}):=e;simp only[bM]at E;obtain⟨⟨rfl,rfl⟩,rfl⟩:=E;clear e;have aV:((u:Int) !=-1)=true:=u1;replace au:=l (au.out u aR);generalize hX k.f u false=o at *;generalize hW k.f u false k.V3 n=ae at *;go_wp2_with fail;refine(Z.out _ M.out).mono ?_;rintro R w3 ⟨rfl,s⟩;have q:=l (M.out.kept (Below.kept s []));have I:=ak.kept (Below.kept s []);have Q:=aj.trans ((Below.kept s []).mono F);have aG:=q.out.c1;have aH:=q.out.c3;go_wp2_with fail;refine(af.out _ q).mono ?_;rintro R ai ⟨rfl,y,D⟩;have S:=l (y.alloc (.cells #[j i,j u,j n] 245));have aK:=(I.more D ad).alloc (.cells #[j i,j u,j n] 245);have aI:=(Q.trans D).alloc (.cells #[j i,j u,j n] 245);have aa:=bg.new ai [j i,j u,j n] 245;have aO:=y.c3;have aP:=y.Wb;have aU:=y.lt;have a7:=S.out.drew.c3;have a9:=aa.cell 1 _ rfl;have ba:=aa.cell 2 _ rfl;have a6:=S.out.c1;clear ag;go_upto_region 12 with fail;go_region_with(first|(go_at_call 313;refine(au.out _ S.out.drew).mono ?_;rintro R N ⟨rfl,W,t⟩;have p:=l (S.out.drew.XE t W);have ay:=aa.drew.more t uQ;have aJ:=ay.more (F:=[b]) ((Kept.refl [b] N).Xb 3 (j (o:Int))) uQ;have h:V (N.setCell ⟨b,3,none⟩ (j (o:Int))) b c d g f {k with f:=ae,V3:=o}:=p.out.Yq o;have av:=p.out.c3;have aw:=p.out.Wb;have ax:=p.out.lt));all_goals
      have p:=l (S.out.drew.XE t W);have ay:=aa.drew.more t uQ;have aJ:=ay.more (F:=[b]) ((Kept.refl [b] N).Xb 3 (j (o:Int))) uQ;have h:V (N.setCell ⟨b,3,none⟩ (j (o:Int))) b c d g f {k with f:=ae,V3:=o}:=p.out.Yq o;obtain⟨-,-,-,av,-,-,aw,ax,-,-,-,-,-,-,-⟩:=p.out;have a8:=aJ.cell 1 _ rfl;have L:=(aK.drew.more t ad).more (F:=[b]) ((Kept.refl [b] N).Xb 3 (j (o:Int))) ad;have ab:=(aI.drew.trans (t.mono F)).Xb 3 (j (o:Int));exact N0
 . rw[ah]at Z e;rw[z (by omega)]at e;have E:((d0,d1),ar)=(((2:Int),(J:Int)),{a with wait:=false,f:=hW a.f J true a.V3 0,V3:=hX a.f J true}):=e;simp only[bM]at E;obtain⟨⟨rfl,rfl⟩,rfl⟩:=E;clear e;have aV:((J:Int) !=-1)=true:=u1;replace ag:=l (ag.out J aS);generalize hX a.f J true=o at *;generalize hW a.f J true a.V3 0=ae at *;go_wp2_with fail;refine(Z.out _ M.out).mono ?_;rintro R w3 ⟨rfl,s⟩;have q:=l (M.out.kept (Below.kept s []));have I:=ak.kept (Below.kept s []);have Q:=aj.trans ((Below.kept s []).mono F);have aG:=q.out.c1;have aH:=q.out.c3;go_upto_region 8 with fail;go_region_with(first|(go_at_call 313;refine(ag.out _ q.out.drew).mono ?_;rintro R N ⟨rfl,W,t⟩;have p:=l (q.out.drew.XE t W);have av:=p.out.c3;have aw:=p.out.Wb;have ax:=p.out.lt));all_goals
    have p:=l (q.out.drew.XE t W);obtain⟨-,-,-,av,-,-,aw,ax,-,-,-,-,-,-,-⟩:=p.out;have h:V _ b c d g f {a with wait:=false,f:=ae,V3:=o}:=p.out.Yq o;have L:=(I.drew.more t ad).more (F:=[b]) ((Kept.refl [b] N).Xb 3 (j (o:Int))) ad;have ab:=(Q.drew.trans (t.mono F)).Xb 3 (j (o:Int));exact N0):=h
def Lh (h:p:=by
 have j:=L.cell 0 _ rfl;exact FP):=h
def Li (h:p:=by
 have O:(s==0)=true:=kl;clear k b;go_wp2_with fail;refine ST.out.mono ?_;rintro M V ⟨rfl,I,B⟩;clear ST;have z:=l (I.alloc (.cells #[j s,j p] 46));have y:=l ((f.out.trans B).alloc (.cells #[j s,j p] 46));go_wp2_with fail;go_roundw;case rel=>
  first
   |exact⟨r+1,i+1,o,by omega,by omega,by go_num,by go_num,q,z,y,x⟩
   | ((repeat apply hC);exact⟨⟨r+1,i+1,o,by omega,by omega,by go_num,by go_num,q,z,y,x⟩,rfl⟩)
 case measure=>exact a5):=h
def Lj (h:p:=by
 have O:(s==0)=false:=kl;clear k b;go_wp2_with fail;refine ST.out.mono ?_;rintro M V ⟨rfl,I,B⟩;clear ST;have z:=l (I.alloc (.cells #[j s,j p] 46));have y:=l ((f.out.trans B).alloc (.cells #[j s,j p] 46));go_wp2_with fail;go_roundw;case rel=>
  first
   |exact⟨r,i+1,o,by omega,by omega,rfl,by go_num,q,z,y,x⟩
   | ((repeat apply hC);exact⟨⟨r,i+1,o,by omega,by omega,rfl,by go_num,q,z,y,x⟩,rfl⟩)
 case measure=>exact a5):=h
def Lk (h:p:=by
 have O:Hid (d=(r,c)):=by show d=_;rw[e.out,show a-i=0 by omega];rfl
 exact IY):=h
def Ll (h:p:=by exact⟨0,0,g,by omega,by omega,rfl,rfl,F,H,l (Kept.refl _ _),G⟩):=h
def Lm (h:p:=by
 subst aK;clear X Y aJ;have H:=l (fun W=>PY (k:Int) W);unfold wK at a;by_cases o:(aP (k:Int)).1.op=0
 . rw[B o]at a;simp only[bM]at a;obtain⟨⟨rfl,rfl,rfl⟩,rfl⟩:=a;obtain⟨⟨⟨I,G,A,C,D,E⟩,bg⟩,aM⟩:∃a2,a2=aP (k:Int):=⟨_,rfl⟩;simp only[<-aM]at H o;try dsimp only at o
   subst o;unfold aW at H;try dsimp only at H
   clear aM;go_wp2_with fail;refine(H.out _).mono ?_;rintro O a4 ⟨rfl,y⟩;have ai:=(ao.kept (Below.kept y [])).alloc (.cells #[j 0,j G,j A,j C,j D,j E] 53);have am:=l ((ap.out.kept (Below.kept y [])).alloc (.cells #[j 0,j G,j A,j C,j D,j E] 53));have M:=(an.trans ((Below.kept y []).mono F)).alloc (.cells #[j 0,j G,j A,j C,j D,j E] 53);go_wp2_with fail;refine(U.out _ _ _).mono ?_;rintro O a5 ⟨rfl,J⟩;have x:=ai.kept (Below.kept J []);have h:=am.out.kept (Below.kept J []);have s:=M.trans ((Below.kept J []).mono F);exact vA
 . rw[z o]at a;have aI:=l (fun W a3=>aed d e f n i {b with b:=aH} (okB HR.out aO) k o W a3);rw[show aW (aP (k:Int)).1=ag (eY (aP (k:Int)).1)from(nB _ (wj _ o).2).2]at H;replace o:¬(eY (aP (k:Int)).1).op=0:=o;generalize (aP (k:Int)).2=bk at *;generalize eY (aP (k:Int)).1=a1 at *;rw[<-a]at aI;obtain⟨I,G,A,C,D,E⟩:=a1;unfold ag cz gC at *;dsimp only at *;have bl:(I==0)=false:=by simp[o]
   clear a;go_wp2_with fail;refine(H.out _).mono ?_;rintro O a4 ⟨rfl,y⟩;have ai:=(ao.kept (Below.kept y [])).alloc (.cells #[j I,j G,j A,j C,j D,j E] 53);have am:=l ((ap.out.kept (Below.kept y [])).alloc (.cells #[j I,j G,j A,j C,j D,j E] 53));have M:=(an.trans ((Below.kept y []).mono F)).alloc (.cells #[j I,j G,j A,j C,j D,j E] 53);go_wp2_with fail;refine(aI.out _ am).mono ?_;rintro O a5 ⟨rfl,h,aN⟩;have x:=ai.more aN ad;have s:=M.trans aN;exact vA):=h
def vA (h:p:=by
 have j:=x.cell 0 _ rfl;exact ak1):=h
def akk (h:p:=by
 unfold da;rw[C.p1];split<;>omega):=h
def Au (h:p:=by exact gc _ R):=h
def Lo (h:p:=by exact⟨b.V7 c,d.XF,by dsimp only;omega,by dsimp only;omega⟩):=h
def Av (h:p:=by rcases gh (b/2^a)with d|d<;>simp[d]):=h
def Aw (h:p:=by cases c.testBit a<;>cases b.testBit a<;>rfl):=h
def Lp (h:p:=by
 show((_,_,_),_)=_;rw[B rfl];refine congrArg (fun i=>((i,-1,0),_)) ?_;exact Ay):=h
def Lq (h:p:=by
 repeat' split
 all_goals first|rfl|(exfalso;omega)):=h
def Lr (h:p:=by
 repeat' split
 all_goals (symm;simp only[cC,mX];omega)):=h
def Ls (h:p:=by
 rw[z (by simp;omega)];exact Lt):=h
def Lt (h:p:=by
 repeat' split
 all_goals first|(symm;simp only[cC,mX]at *;omega)|(rw[yz];simp only[cC]at *;omega)):=h
def Lu (h:p:=by
 simp only[Q.mk.injEq,Bu,jW];simp):=h
def Lv (h:p:=by
 revert this;cases c.testBit a<;>cases d.testBit a<;>cases e.testBit a<;>cases b.testBit a<;>simp):=h
def Ay (h:p:=by exact congrArg Int.ofNat (pR b.V3 a)):=h
def Lw (h:p:=by rcases q with d|d|d<;>by_cases p:g=0<;>cases r<;>cases s<;>simp[d,h,p]):=h
def Lx (h:p:=by
 unfold jX mo hr ax S h2;rw[f];simp only[Q.mk.injEq,pS,pU,pT,g,d];rw[jW (aI _ _ |||_)];simp only[pS,pU,pT];simp):=h
def Ly (h:p:=by
 refine congrArg (fun i=>((i,(-1:Int),(0:Int)),_)) ?_;exact Ay):=h
def Lz (h:p:=by
 unfold dW a6 hr;by_cases d0:a.rd=0
 . rw[B d0,B d0];rfl
 . rw[z d0,z d0];rfl):=h
def LA (h:p:=by repeat(first|(with_reducible exact C)|(with_reducible refine E.alloc ?_ _)|(with_reducible refine E.drew ?_)|(with_reducible refine E.other _ _ _ ?_ m m))):=h
def vB (h:p:=by repeat(first|(with_reducible exact u)|(with_reducible refine E.alloc ?_ _)|(with_reducible refine E.drew ?_)|(with_reducible refine E.other _ _ _ ?_ m m))):=h
def LB (h:p:=by repeat(first|(with_reducible exact Kept.refl _ _)|(with_reducible refine Kept.Xb ?_ _ _)|(with_reducible refine Kept.setCell ?_ (ci aL) _)|(with_reducible refine Kept.drew ?_)|(with_reducible refine Kept.drewN ?_ _)|(with_reducible refine Kept.alloc ?_ _)|(with_reducible refine Kept.trans ?_ (h.mono F))|(with_reducible refine Kept.trans ?_ (e.mono F))|(with_reducible refine Kept.trans ?_ (b.mono F))|(with_reducible refine Kept.trans ?_ (i.mono F)))):=h
def vC (h:p:=by
 have m:dv b a=am (g3 (aD b g f i) a):=by rw[nY b a (by omega) (by omega) (by omega)];exact(pR b.V3 a).symm
 rw[B rfl,qs,m,l];rfl):=h
def LD (h:p:=by
 rw[B rfl,qs,s,l];rfl):=h
def LF (h:p:=by
 generalize (r&& (decide (b/4%2=0)&&!decide (a=4)))=l;cases l
 . rfl
 . simp only[if_true];rw[show(ax c b (decide (a=1)) (decide (a=4))).ret=c.c.ret from rfl,show(ax c b (decide (a=1)) (decide (a=4))).We=c.c.We from rfl,i.1,i.2];rfl):=h
def LG (h:p:=by
 clear b;go_enter func161,ntmps161;exact ik):=h
def LH (h:p:=by
 go_enter func168,ntmps168;exact Ja):=h
def LI (h:p:=by
 clear b;go_enter func68,ntmps68;exact ik):=h
def LJ (h:p:=by
 clear b;go_enter func232,ntmps232;exact ik):=h
def akl (h:p:=by
 rintro e f ⟨rfl,rfl⟩;exact ik):=h
def LK (h:p:=by
 go_wp2_with fail;go_roundw;case rel=>exact⟨i+1,r,by omega,aj,by go_num,o,L,p⟩
 case measure=>exact a5):=h
def LL (h:p:=by
 clear b;go_enter func23,ntmps23;exact ik):=h
def LM (h:p:=by
 intro y l;simp[dt]at l;obtain⟨m,_,rfl⟩:=l;rfl):=h
def LN (h:p:=by
 go_enter func24,ntmps24;exact cn):=h
def LO (h:p:=by
 clear k b;exact LN):=h
def akm (h:p:=by
 obtain⟨j,_,rfl⟩:=o;rfl):=h
def LP (h:p:=by simp only[fm,bt,oi]):=h
def el (h:p:=by
 go_enter func316,ntmps316;exact AN):=h
def LQ (h:p:=by
 subst A;by_cases w:a.res=0
 . have ai:((a.res:Int) !=0)=false:=pi;have ar:((a.res:Int)==0)=true:=pi;have aw:(!((a.res:Int)==0))=false:=pi;have ah:∃d:Nat,d=a.res:=⟨_,rfl⟩;obtain⟨ah,m⟩:=ah;have x:=S.out;rw[B w]at x;exact NR
 . have ai:((a.res:Int) !=0)=true:=pi;have ar:((a.res:Int)==0)=false:=pi;have aw:(!((a.res:Int)==0))=true:=pi;have ah:∃d:Nat,d=a.res:=⟨_,rfl⟩;obtain⟨ah,m⟩:=ah;have x:=S.out;rw[z w]at x;exact NR):=h
def LR (h:p:=by intro D p;simp[aN.WV]at p|-;rcases p with a|a<;>simp[a]):=h
def LS (h:p:=by exact this.mono (fun y x ⟨j,l,v⟩=>⟨j,l,v.mono F⟩)):=h
def LU (h:p:=by
 rw[show((a.toNat:Nat):Int)=a by omega]at this;exact this):=h
def LW (h:p:=by
 rw[show((a.toNat:Nat):Int)=a by omega]at this;exact LS):=h
def r6 (h:p:=by
 have p:=l f;have B:=l e;clear f e m c a;go_enter func97,ntmps97;go_wp2_with fail;refine(d.out _ p.out.x).mono ?_;rintro F I ⟨rfl,z,j⟩;have z:=l z;have D:=p.out.aD j;have A:=n.more j r;have G:=A.cell 2 _ rfl;have H:=A.cell 4 _ rfl;have E:=l j;have u:=l D;clear j D n A d;go_wp2_with fail;refine(b.out _ u.out).mono ?_;rintro F K ⟨rfl,w,v⟩;have x:=l (p.out.two E.out z.out (Kept.refl _ _) v w q.out);exact LX):=h
def LX (h:p:=by
 clear w v b u G H;exact ak2):=h
def LY (h:p:=by
 go_wp2_with fail;go_ret;exact⟨rfl,p,k.out,i3.refl _ _,wN g.out⟩):=h
def Az (h:p:=by
 have p:=l g;have x:=l f;clear g f m i d;go_enter func98,ntmps98;go_wp2_with fail;refine(c.out _ p.out.x).mono ?_;rintro z C ⟨rfl,j⟩;have n:=l (p.out.W3 j);have v:=s.kept j;have F:=v.cell 2 _ rfl;have G:=v.cell 3 _ rfl;have w:=l (x.out.trans j);clear j s v c p x;go_wp2_with fail;refine(a.out _ n.out.r).mono ?_;rintro z E ⟨rfl,t⟩;exact LZ):=h
def LZ (h:p:=by
 have I:=l (n.out.W3 t);exact ak3):=h
def L0 (h:p:=by
 go_wp2_with fail;go_ret;exact⟨rfl,b.out,r.out⟩):=h
def L1 (h:p:=by
 have:=iz w h (fun i g a=>by simp only[Value.ownBlock,b6]at g;simp at a;omega);simpa[iB]using this):=h
def L2 (h:p:=by
 have j:Hid (c<b):=l (by rw[d]at e;omega);rw[<-e]at w3;clear g d i h;go_enter func95,ntmps95;go_wp2_with fail;go_ret;exact⟨⟨c,j.out,by first|rfl|simp[e]⟩,rfl⟩):=h
def L3 (h:p:=by
 unfold Oper.wp execOp;simp only[A,resolve,invoke,builtin,Sem.run_bind,Sem.run_pure,Result.andThen_ok,List.map_toArray,tT,List.map_nil,C,E,B];exact t _ _ (z g b a u v w x y)):=h
def L5 (h:p:=by
 clear ai L H K;exact ak4):=h
def L6 (h:p:=by
 rw[List.map_append,List.map_append,<-aj.out.1,<-aj.out.2];exact ai):=h
def L7 (h:p:=by
 go_meet;case rel=>exact⟨by rw[U.out],rfl⟩):=h
def L8 (h:p:=by
 go_wp2;exact If):=h
def L9 (h:p:=by
 go_enter func328,ntmps328;exact m8):=h
def vD (h:p:=by
 go_ret2;exact⟨by rw[e.out];rfl,rfl⟩):=h
def Ma (h:p:=by
 clear b c;exact ak5):=h
def Mb (h:p:=by exact⟨rfl,(aq _ _).alloc (aB _) _⟩):=h
def akn (h:p:=by
 go_ret;exact NS):=h
def Mc (h:p:=by
 have p:Hid (o=(0,0)):=b;exact Ma):=h
def Md (h:p:=by
 rw[bd c1]at v;have e:=l d;clear d b c h c1 f;exact Mf):=h
def Me (h:p:=by
 clear d b c c1 f h;go_wp2_with(go_at_call 150;refine(tr i _).mono ?_;rintro l j ⟨rfl,rfl⟩;rw[<-x.out]);go_round;case rel=>exact⟨i+1,by omega,by omega,by go_num,fun m=>by simp at w;omega,⟨_,rfl⟩,e⟩
 case measure=>exact a5):=h
def Mf (h:p:=by
 go_wp2_with(go_at_call 150;refine(tr i _).mono ?_;rintro l j ⟨rfl,rfl⟩;rw[<-x.out]);exact vD):=h
def Mg (h:p:=by
 clear d b c c1 f c2;go_wp2_with(go_at_call 150;refine(tr i _).mono ?_;rintro l j ⟨rfl,rfl⟩;rw[<-x.out]);go_round;case rel=>exact⟨i+1,by omega,by omega,by go_num,fun m=>rfl,⟨_,rfl⟩,e⟩
 case measure=>exact a5):=h
def Mh (h:p:=by
 go_wp2;go_round;case rel=>exact⟨i,b+p,h,f,g,by omega,by go_num,by go_num,by go_num,by go_num,by go_num,by omega,by omega,by omega,l⟩
 case measure=>simp[intOf]):=h
def Mi (h:p:=by
 have aP:decide ((97:Int)<=(a[i].toNat:Int))=false:=u0;go_wp2_with fail;refine(s2 o m _ m m _).mono ?_;rintro R K ⟨⟨j,rfl,aq,D⟩,rfl⟩;rw[ds]at D;have e:=wm E (wd D) n;clear n D;go_wp2_with fail;refine(mr _ m m _).mono ?_;rintro R K ⟨⟨p,rfl,aB,aO,c⟩,rfl⟩;have G:((a.size:Int)-1- (i:Int)).toNat=a.size- (i+1):=J;rw[G]at c;clear G;rw[<-c.out,wA]at e;have M:b+j*p<4294967296:=rG;have y:Hid (b+j*p+2^(a.size-i)*C.draw (C.ah a.data.toList i) ((o:Int)/2^(h+1)) ((q:Int)/2^f) ((r:Int)/2^g) d=x):=rH;clear e c E;rcases(show j=0\/j=1 by omega)with rfl|rfl
 . rw[oS,dl]at y;go_wp2;go_round;case rel=>exact⟨i,b,h+1,f,g,by omega,by go_num,by go_num,by go_num,by go_num,by go_num,by omega,by omega,by omega,y⟩
   case measure=>simp[intOf]
 . rw[oN]at y M;go_wp2;go_round;case rel=>exact⟨i,b+p,h+1,f,g,by omega,by go_num,by go_num,by go_num,by go_num,by go_num,by omega,by omega,by omega,y⟩
   case measure=>simp[intOf]):=h
def Mj (h:p:=by exact⟨i,b,h,f,g,by omega,by go_num,by go_num,by go_num,by go_num,by go_num,by omega,by omega,by omega,l⟩):=h
def AB (h:p:=by
 go_enter func90,ntmps90;exact Mo):=h
def r7 (h:p:=by
 unfold aW;go_enter func90,ntmps90;go_wp2_with fail;refine(xd i.op b c _).mono ?_;rintro j o ⟨rfl,d⟩;have e:=(dH.start i a _).more d;clear d;simp only[dy];obtain⟨-,n,p,q,r,s,t,u⟩:=id e;go_wp2;go_ret2;exact⟨rfl,((e.alloc _).alloc _).below⟩):=h
def Mk (h:p:=by
 go_wp2;go_ret2;exact⟨rfl,(b.alloc _).below⟩):=h
def vE (h:p:=by repeat(first|exact aq _ _|(with_reducible refine bf ?_ F _)|(with_reducible refine bl ?_ F _))):=h
def Mm (h:p:=by
 rintro i j ⟨rfl,rfl⟩;go_wp2;refine ac (v:=du q p none) uH rfl ⟨rfl,?_⟩;exact vE):=h
def Mn (h:p:=by
 go_enter func330,ntmps330;exact m8):=h
def vF (h:p:=by
 rintro R U ⟨rfl,g⟩;rw[<-Q.out];have j:=Z.out.more g F;have i:=l (P.out.trans (g.mono P.out.size));clear g Z P Y n;obtain⟨m,u,y,z,B,D,K,L,aa,-⟩:=id j;clear j;cases S with
 |none=>
  unfold du bp aF;go_wp2;refine ac (v:=du d k none) Gu rfl ⟨by first|rfl|simp[eq,bp],?_⟩;repeat(first|with_reducible exact aq _ _|with_reducible exact i.out|(with_reducible refine bf ?_ F _)|(with_reducible refine bl ?_ F _))
 |some ak=>
  unfold du bp;go_wp2;refine ac (v:=du d k (some ak)) Gu rfl ⟨by first|rfl|simp[eq,bp],?_⟩;repeat(first|with_reducible exact aq _ _|with_reducible exact i.out|(with_reducible refine bf ?_ F _)|(with_reducible refine bl ?_ F _))):=h
def lV (h:p:=by rw[k]at c;simp at c):=h
def AC (h:p:=by
 rw[z (fun w=>g w.symm)]at b;rw[aV g]at h;have j:(m.toList==d.toList)=false:=by rw[b5]at h|-;exact fun w=>h w.symm
 clear g i h;go_wp2;go_round;case rel=>exact⟨a+1,by omega,by go_num,b⟩
 case measure=>exact a5):=h
def AD (h:p:=by exact⟨0,by omega,rfl,by simpa using n⟩):=h
def AE (h:p:=by
 go_enter func255,ntmps255;go_wp2;exact r3):=h
def Mo (h:p:=by
 go_wp2;exact NT):=h
def Mp (h:p:=by
 go_enter func185,ntmps185;go_wp2_with(go_at_call 255;refine(n.out _).mono ?_;rintro j i ⟨rfl,rfl⟩);exact NT):=h
def Mr (h:p:=by
 go_enter func185,ntmps185;go_wp2_with(go_at_call 89;refine(s.out _).mono ?_;rintro l j ⟨rfl,i⟩);go_ret2;exact⟨rfl,((aq _ _).alloc (aB _) _).trans (i.mono F)⟩):=h
def AF (h:p:=by
 rw[<-d]at c|-;have HR:=l c;clear c d f;go_enter func223,ntmps223;go_wp2_with(go_at_call 306;refine(HR.out _).mono ?_;rintro j i ⟨rfl,rfl⟩);go_ret;exact⟨rfl,x _⟩):=h
def Ms (h:p:=by
 rw[z (by decide),z (by decide),z (by decide),z (by decide),z (by decide)];obtain⟨B,d⟩:=y (u.aG (Lib.itoa e));have c:=fun i f=>sh e m m i f;exact Mt):=h
def Mt (h:p:=by
 rw[<-d]at c|-;exact ak6):=h
def Mu (h:p:=by
 clear c;go_enter func147,ntmps147;go_wp2_with(first|(go_at_call 219;refine(jL _ _).mono ?_;rintro j l ⟨rfl,rfl⟩;rw[x.out])|(go_at_call 220;refine G.out.mono ?_;rintro j u ⟨rfl,E⟩));exact K8):=h
def Mv (h:p:=by repeat(first|with_reducible exact e|(with_reducible refine bf ?_ f _))):=h
def vH (h:p:=by repeat(first|with_reducible exact aq _ _|with_reducible exact k.out|(with_reducible refine bf ?_ F _)|(with_reducible refine bl ?_ F _))):=h
def Mw (h:p:=by
 rcases a with a|⟨i,rfl,a⟩
 . exact .inl a
 . exact .inr ⟨i,rfl,fun k j=>(a k j).below g (h _ rfl)⟩):=h
def Mx (h:p:=by unfold u.cA;simp only;rw[z c,d]):=h
def ako (h:p:=by
 go_wp2;exact NU):=h
def My (h:p:=by repeat(first|with_reducible exact aq _ _|with_reducible exact N.out|(with_reducible refine bf ?_ F _)|(with_reducible refine bl ?_ F _))):=h
def Mz (h:p:=by
 have o:Hid (f=(5,eL)):=by
  show f=_;rw[HR.out];exact s5 _ _ _ (by rw[<-ag.out];exact ak)
 exact ak7):=h
def MA (h:p:=by rw[HR.out];exact s4 _ _ _ (by rw[v];exact ak) uN):=h
def MB (h:p:=by rw[HR.out];exact s6 _ _ _ (by rw[v];exact ak) uN):=h
def MC (h:p:=by
 cases d with
 |nil=>
  have af:Hid (f=(0,⟨[],aF,[]⟩)):=HR;clear HR;go_wp2;refine ac (v:=.tuple #[bp ⟨#[]⟩ aF ⟨#[]⟩,j 0]) uK rfl ⟨by rw[af.out]<;>simp only[kT]<;> (first|rfl|rw[<-V.out]),?_⟩;repeat(first|with_reducible exact aq _ _|with_reducible exact N.out|(with_reducible refine bf ?_ F _)|(with_reducible refine bl ?_ F _))
 |cons b LT=>
  have bt:=A.out 0 F;obtain⟨aS,aU⟩:=y (⟨b.toArray⟩:K);have d0:c.cell? ⟨s,E,none⟩=some (.string aS):=by rw[<-dl E,bt,aU];rfl
  have bx:aS.data.toList=b:=by rw[aU]
  have aA:=Ba aS;obtain⟨bY,bU,bA,bV,bB⟩:=k7 s E ay (b::LT) 1 1 rfl F W;have aC:=bB c A.out;simp only[oU,jt]at bA bV aC;rw[bx]at aA;obtain⟨bs,w⟩:=y (u.bk b);have bw:bs.1<=72:=ze;rw[<-w]at aA;obtain⟨p,L⟩:=bs;have Y:=l aA;have ag:=l w;have bq:=l aC;simp only[c9]at ai W bA;have b5:((LT.length:Int)+1==0)=false:=M;clear bt bB aC aA w aU bx A;by_cases ak:L=0
  . exact Mz
  . have b4:((L:Int)==0)=false:=M;have bu:∀n,n=u.bJ (u.eN p) false ⟨p,0,0,0,0,L⟩ [] LT->(n=none->f=(6,eL))/\(∀i g,n=some (i,g)->f=(0,⟨[],i,g⟩)):=by
     intro n k;have aj:(u.bk b).1=p:=m4;have v:(u.bk b).2=L:=m4;refine⟨fun a=>?_,fun i g a=>?_⟩
     . exact MA
     . exact MB
    obtain⟨br,hS⟩:=y (Nm.shape p);have a0:=(k5 p bw).1;have bz:=(k5 p bw).2;rw[<-hS]at a0;have ah:Below c.heap.size c (c.alloc (bX ⟨#[]⟩ aF ⟨#[]⟩)):=lT;have aV:=A8 ⟨#[]⟩ ⟨p,0,0,0,0,L⟩ [] br (l hS.symm) a0 (by rw[hS];exact l bz) s bY bU LT m _ (bc.more bq az ah) (aR az ah.size) (l (fun b bW=>P.out b (rh _ bW)));obtain⟨n,k⟩:=y (u.bJ (br.data.toList.map UInt8.toNat) false ⟨p,0,0,0,0,L⟩ [] LT);rw[<-k,wW]at aV;have bv:=bu n (by rw[k,hS];rfl);have aX:=(bC.new c ⟨#[]⟩ aF ⟨#[]⟩);have aQ:=l (aV.mono fun x h a=>(⟨a.1,l (ah.trans (a.2.mono ah.size)),l (aX.more a.2 aX.lt)⟩:_/\Hid (Below c.heap.size c h)/\Hid (bC h c.heap.size ⟨#[]⟩ aF ⟨#[]⟩)));have ax:=l bv;unfold bp bX aF at aQ;clear bu a0 bz ah aV aX bv hS k HR bq P ag Q X aW aY;go_wp2_with fail;refine(Y.out _).mono ?_;rintro x h ⟨rfl,rfl⟩;go_wp2_with fail;refine aQ.out.mono ?_;rintro x h ⟨rfl,N,bE⟩;clear aQ Y;have bK:Hid (c.heap.size<h.heap.size):=bE.out.lt;obtain⟨y0,y1,y2,y3,y4,bF,bG,bH,bI,bJ⟩:=bE.out;cases n with
    |none=>
     have af:=l (ax.out.1 rfl);clear ax;go_wp2;refine ac (v:=.tuple #[bp ⟨#[]⟩ aF ⟨#[]⟩,j 6]) uL rfl ⟨by rw[af.out]<;>rfl,?_⟩;repeat(first|with_reducible exact aq _ _|with_reducible exact N.out|(with_reducible refine bf ?_ F _)|(with_reducible refine bl ?_ uM _))
    |some r=>
     obtain⟨D,aa⟩:=r;have af:=l (ax.out.2 D aa rfl);clear ax;obtain⟨bd,aT⟩:=y (qg (some (D,aa)));have bN:Hid (bd=⟨aa.toArray⟩):=aT;have aj:qh ⟨#[]⟩ (some (D,aa))=⟨#[]⟩:=rfl;have v:fQ (some (D,aa))=D:=rfl;rw[<-aT,aj,v];clear aT aj v;go_wp2;refine ac (v:=.tuple #[bp ⟨#[]⟩ D bd,j 0]) uL rfl ⟨by rw[af.out];simp only[kT];rw[<-bN.out]<;> (first|rfl|rw[<-V.out]),?_⟩;repeat(first|with_reducible exact aq _ _|with_reducible exact N.out|(with_reducible refine bf ?_ F _)|(with_reducible refine bl ?_ uM _))):=h
def MD (h:p:=by rw[ByteArray.data_append,Array.toList_append]):=h
def akp (h:p:=by
 go_meet;case rel=>exact(by exact⟨by rw[aG.out],rfl⟩)):=h
def ME (h:p:=by
 have j:(i.V4==2)=false:=eT;rw[z c]at p;exact MR):=h
def MF (h:p:=by
 clear W X an;exact AH):=h
def MG (h:p:=by
 go_wp2_with(go_at_call 147;refine(ag.out _ S.out).mono ?_;rintro j w3 ⟨rfl,i⟩);go_ret2;exact⟨by rw[k.out,af.out];rfl,e.out.trans (i.mono e.out.size)⟩):=h
def MH (h:p:=by
 go_wp2_with fail;refine H.out.mono ?_;rintro j l ⟨rfl,i⟩;go_wp2;go_ret2;exact⟨by rw[k.out];rfl,i.alloc i.size _⟩):=h
def MI (h:p:=by
 rintro v t ⟨x,rfl,h,i,q⟩;have o:=i.2;obtain⟨m,n,rfl,w,l,p⟩:=bc.Y0 i h;refine⟨m,n,rfl,?_,l,p,q⟩;rcases o with⟨c,_⟩|⟨g,s,u,c,_,_,r,_⟩
 . exact absurd c h
 . simp only[Value.slice.injEq]at c;rw[c.2.2];exact r):=h
def AH (h:p:=by
 go_wp2;go_meet;case rel=>exact(by exact⟨rfl,rfl⟩)):=h
def MJ (h:p:=by
 refine Q.out.mono ?_;rintro aO aV ⟨rfl,p,d6⟩;clear Q;obtain⟨ay,K⟩:=x;by_cases b:K=0
 . have aC:(K !=0)=false:=gW;obtain⟨D,M⟩:=y (strOfNums (b4 ay f));have aP:D.size=f:=by rw[M,D5,wS]
   obtain⟨i,L⟩:=y (e++D);have aU:∀W,(Op.stringOp .add e D).run prog W=.ok (.string i) W:=fun W=>eb (a:=e) (b:=D) (c:=i) L.symm m W;have aa:i.size<=4* (d+1):=HD;have U:Hid (h=u.lay a (a.drop (d+1)) (d+1) i.data.toList):=by
    show h=_;have j:=R.out;rw[B b]at j;rw[j,L,Bn,M];rfl
   have aN:=l M;clear R M L b aP;go_wp2_with(go_at_call 177;refine(se ay f m _).mono ?_;rintro aO aW ⟨rfl,aq⟩;rw[<-aN.out]);go_roundw;case rel=>
    first
     |exact⟨d+1,i,by omega,aa,rfl,by go_num,l (p.out.trans (aq.mono p.out.size)),U⟩
     | ((repeat apply hC);exact⟨⟨d+1,i,by omega,aa,rfl,by go_num,l (p.out.trans (aq.mono p.out.size)),U⟩,rfl⟩)
   case measure=>exact a5
 . have aC:(K !=0)=true:=gW;have U:Hid (h=([],K,d+1)):=by
    show h=_;have j:=R.out;rw[z b]at j;exact j
   clear R b;go_wp2;go_ret3;exact⟨by rw[U.out];rfl,p.out⟩):=h
def AI (h:p:=by
 go_ret3;exact⟨by rw[HR.out];rfl,aq _ _⟩):=h
def MK (h:p:=by next m=>exact⟨h,i,by omega,m,by rw[<-dr d];rfl⟩):=h
def ML (h:p:=by
 rw[cR,bb]at a;rcases a with a|a
 . omega
 . exact U4 _ a W):=h
def MM (h:p:=by rw[hd];exact⟨aau _,by decide,by decide,by omega,by omega⟩):=h
def MN (h:p:=by
 rw[hd];obtain⟨i,m,n⟩:=b _ d j;exact⟨i,m,n,by omega,by omega⟩):=h
def AJ (h:p:=by
 rw[e];clear e p o;go_enter func152,ntmps152;go_wp2_with(go_at_call 149;refine(r.out _).mono ?_;rintro l m ⟨rfl,i⟩);exact NV):=h
def MO (h:p:=by
 go_ret;exact⟨rfl,I.out.trans (P.mono I.out.size)⟩):=h
def MP (h:p:=by
 rw[z (by decide),z (by decide),z (by decide),z (by decide),z (by decide)];obtain⟨D,e⟩:=y (u.aG (Lib.itoa c));have C:=fun B=>ts c m m B;exact MQ):=h
def MQ (h:p:=by
 rw[<-e]at C|-;exact ak8):=h
def MR (h:p:=by
 have i:=l p;exact ak9):=h
def MS (h:p:=by
 clear V v;by_cases c:i.V4=2
 . have M:(i.V4==2)=true:=eT;rw[B c]at k;obtain⟨j,l⟩:=y (⟨#[46,104,97,108,102,32]⟩++d:K);have m:(⟨#[46,104,97,108,102,32]⟩:K).size=6:=rfl;have aa:d.size<=21:=HE;have W:∀a,(Op.stringOp .add ⟨#[46,104,97,108,102,32]⟩ d).run prog a=.ok (.string j) a:=fun a=>eb (a:=⟨#[46,104,97,108,102,32]⟩) (b:=d) (c:=j) l.symm (by rw[m];omega) a;have J:Hid (r=(j.data.toList,0)):=by
    show r=_;rw[k.out,l,kC,ao.out];have D:u.bq 72++[32]=[46,104,97,108,102,32]:=zb;show(u.bq 72++32::Lib.itoa n,(0:Int))=([46,104,97,108,102,32]++Lib.itoa n,0);rw[<-D,oD];rfl
   exact NW
 . have M:(i.V4==2)=false:=eT;rw[z c]at k;obtain⟨j,l⟩:=y (⟨#[46,119,111,114,100,32]⟩++d:K);have m:(⟨#[46,119,111,114,100,32]⟩:K).size=6:=rfl;have aa:d.size<=21:=HE;have W:∀a,(Op.stringOp .add ⟨#[46,119,111,114,100,32]⟩ d).run prog a=.ok (.string j) a:=fun a=>eb (a:=⟨#[46,119,111,114,100,32]⟩) (b:=d) (c:=j) l.symm (by rw[m];omega) a;have J:Hid (r=(j.data.toList,0)):=by
    show r=_;rw[k.out,l,kC,ao.out];have D:u.bq 71++[32]=[46,119,111,114,100,32]:=zb;show(u.bq 71++32::Lib.itoa n,(0:Int))=([46,119,111,114,100,32]++Lib.itoa n,0);rw[<-D,oD];rfl
   exact NW):=h
def MT (h:p:=by
 clear g i h HR;exact NX):=h
def MU (h:p:=by
 clear b n f HR;exact NX):=h
def AL (h:p:=by exact l (fun i F k=>by rw[A.out]at k;cases k)):=h
def AM (h:p:=by repeat(first|with_reducible exact aq _ _|with_reducible exact o.out|with_reducible exact h.out|(with_reducible refine bf ?_ F _)|(with_reducible refine bl ?_ F _)|(with_reducible refine fG ?_))):=h
def MV (h:p:=by
 go_enter h8,h9;go_wp2_with fail;refine(x.out _).mono ?_;rintro K u ⟨rfl,g⟩;have h:=l (o.out.trans (g.mono o.out.size));have D:=t.out.more g ad;have y:=s.out.more g F;have U:=l D;have M:=l y;have d0:al u f d (.string r):=iW;obtain⟨y0,y1,y2,y3,y4,G,H,I,J,N,O,P⟩:=id D;obtain⟨Q,R,S,T,V,X,Y,Z,aa,ab,ae,af⟩:=id y;clear D y g t s x;have d1:al u f (d+1) (.string B):=HG;have d2:al u f (d+2) (.string aj):=HH;have d3:al u f (d+3) (.string C):=HI;go_wp2_with fail;refine(aA.out _).mono ?_;rintro K L ⟨rfl,rfl⟩;go_wp2_with fail;refine(az.out _).mono ?_;rintro K L ⟨rfl,rfl⟩;go_wp2;refine ac (v:=.tuple #[bE b i c,.slice (some ⟨f,d,none⟩) (L4.length+1+1+1+1) v,.bool false]) iU rfl ⟨⟨i,c,d,L4.length+1+1+1+1,v,?_,?_⟩,?_⟩
 . rw[A.out];rfl
 . exact AL
 . exact AM):=h
def MW (h:p:=by refine⟨?_,?_,?_,?_,?_,?_,?_,?_,?_,?_,?_,?_⟩<;>simp[go_sem,g,h,j,k,l,m,n,o,p,q,r,s]):=h
def MX (h:p:=by refine⟨?_,?_,?_,?_,?_,?_,?_,?_,?_,?_,?_,?_⟩<;>simp[go_sem,g,h,j,k,l,m,n,o,p,q,s,t,b,r]):=h
def MY (h:p:=by
 obtain⟨g,h,j,k,l,m,n,o,p,q,r,s⟩:=id t;exact MW):=h
def MZ (h:p:=by
 go_wp2_with fail;go_meet;case rel=>exact⟨false,rfl,rfl,l ⟨fun g=>(by cases g),fun g=>absurd g bb.out⟩⟩):=h
def M0 (h:p:=by repeat(first|with_reducible exact aq _ _|with_reducible exact ax.out|(with_reducible refine bf ?_ rp _)|(with_reducible refine bl ?_ rq _)|(with_reducible refine fG ?_))):=h
def vJ (h:p:=by exact absurd E (by rw[af];simp)):=h
def vK (h:p:=by
 clear b;go_enter func155,ntmps155;go_wp2_with fail;go_ret2;exact⟨by rw[f.out];rfl,v.out _⟩):=h
def M1 (h:p:=by
 clear b;go_enter func155,ntmps155;go_wp2_with fail;refine(N.out _).mono ?_;rintro l m ⟨rfl,j⟩;unfold u.aG;go_wp2_with fail;go_ret2;exact⟨by rw[f.out];rfl,(v.out _).trans (j.mono (v.out _).size)⟩):=h
def M2 (h:p:=by
 by_cases b:X=0
 . have l:(X !=0)=false:=gW;have j:Hid (F=(u.dT Z a,0)):=by
    show F=_;rw[P.out,B b]
   clear b P;go_wp2_with fail;refine(wT Z a m _).mono ?_;rintro y D ⟨rfl,p⟩;unfold u.aG;go_wp2_with fail;go_ret2;exact⟨by rw[j.out];rfl,ag.out.trans (p.mono ag.out.size)⟩
 . have l:(X !=0)=true:=gW;have j:Hid (F=([],7)):=by
    show F=_;rw[P.out,z b]
   clear b P;go_wp2_with fail;go_ret2;exact⟨by rw[j.out];rfl,ag.out⟩):=h
def M3 (h:p:=by
 rintro j l ⟨rfl,s⟩;exact ala):=h
def M4 (h:p:=by
 rintro j l ⟨rfl,i⟩;go_wp2_with fail;go_ret;exact⟨rfl,xB s.out d.out.1 d.out.2.1 ((g.out _).trans (i.mono (g.out _).size))⟩):=h
def M5 (h:p:=by
 go_wp2;go_ret;exact⟨⟨_,rfl,fun _=>by omega⟩,rfl⟩):=h
def AN (h:p:=by
 go_wp2_with fail;go_ret;exact⟨rfl,aq _ _⟩):=h
def lW (h:p:=by
 go_wp2_with fail;refine b.out.mono ?_;exact z8):=h
def lX (h:p:=by
 subst d;exact⟨_,rfl,_,_,_,[],_,[],a,trodAll_mk1 (shut_bool Tryz.underlying4 _),trodAll_mk1 (Below.trod jV aQ (of_decide_eq_true aQ) c b e),rfl,b.frame _,fun l=>by cases l⟩):=h
def M6 (h:p:=by
 clear K c Z Y aj al an ao ap aq;exact alb):=h
def M7 (h:p:=by
 clear K c Z Y aj al an ao ap aq;exact alc):=h
def M8 (h:p:=by
 obtain⟨i,l,af,I,J,y,N,B,O,E,S,G⟩:av w3 (f.heap.size+1) 0 0:=rR;go_wp2_with(first|(go_at_call 199;refine(on _).mono ?_;rintro W ag ⟨rfl,rfl⟩));refine ac (v:=.agg #[j (-1),j 0]) (by simp[results,results201,go_sem,i,l,I,J,y,N,B,O,E,S,G,ej,fb]) rfl ⟨rfl,aH.box (f.heap.size+1) ?_ m m,?_⟩
 . exact jG
 . exact r0):=h
def M9 (h:p:=by
 go_wp2_with(go_at_call 190;refine(g.out _).mono ?_;rintro j l ⟨rfl,rfl⟩);go_end0;refine⟨rfl,?_,?_⟩
 . exact s.out.drew
 . exact Ag):=h
def Na (h:p:=by
 simp at d;obtain⟨⟨rfl,rfl,rfl⟩,rfl⟩:=d;go_wp2_with fail;exact vL):=h
def vL (h:p:=by
 refine(aY.out _ _ N).mono ?_;exact ald):=h
def i1 (h:p:=by
 rw[<-d]at v;dsimp only at v;go_wp2_with fail;refine(v.out _ N).mono ?_;rintro l y ⟨rfl,ab,i⟩;have L:=aa.more i ad;have ae:=Z.trans (i.mono yN);exact vM):=h
def Nb (h:p:=by
 refine(aC.out _ _).mono ?_;exact ale):=h
def vM (h:p:=by
 have F:=L.cell 0 _ rfl;exact alf):=h
def vN (h:p:=by
 go_wp2;exact AO):=h
def AO (h:p:=by
 go_ret;exact⟨by first|rfl|(refine congrArg (fun r=>Ending.returned (Value.bool r)) ?_;simp;omega),rfl⟩):=h
def Nc (h:p:=by
 go_ret;exact⟨by first|rfl|(refine congrArg (fun m=>Ending.returned (j m)) ?_;omega),rfl⟩):=h
def akq (h:p:=by
 rw[<-g.out]at j;exact alg):=h
def akr (h:p:=by
 go_wp2;go_ret2;exact⟨⟨j,(c.out.trans i.out:_=_),by omega,rfl⟩,rfl⟩):=h
def aks (h:p:=by
 rw[e.out]at b;go_wp2;go_ret2;exact⟨by rw[b.out];rfl,rfl⟩):=h
def akt (h:p:=by
 obtain⟨k,o⟩:=y (u.df 10 0 (a.data.toList.drop 0));rw[<-o]at d;have r:=l d;have v:Hid (u.df 10 0 (a.data.toList.drop 0)=k):=o.symm;clear o d q;go_enter func388,ntmps388;go_wp2;go_loop [6,7] (fun C e=>∃i b:Nat,i<=a.size/\C=j b/\e=j i/\Hid (b+1<=10^i)/\Hid (u.df 10 b (a.data.toList.drop i)=k)) (fun _ e=>a.size- (intOf e).toNat);case atStart=>exact HU
 case round=>
  obtain⟨i,b,M,rfl,rfl,f,c⟩:=hrel;have H:b<=10000000000:=by
   have J:=f.out;have K:10^i<=10^10:=ke;have L:((10:Nat)^10)=10000000000:=cM;omega
  by_cases h:i<a.size
  . go_wp2_with fail;refine(Ev a[i] _).mono ?_;rintro I D ⟨rfl,rfl⟩;obtain⟨e,hd⟩:=y (u.cq a[i]);rw[<-hd];have g:=l hd;clear hd;by_cases d16:e=16
    . exact FJ
    rw[z d16];by_cases x:10<=e
    . exact FK
    . exact FI
  . obtain rfl:i=a.size:=by omega
    have hd:a.data.toList.drop a.size=[]:=rw;rw[hd]at c;exact Nh):=h
def Nf (h:p:=by
 clear d;go_enter func388,ntmps388;go_wp2;go_ret2;exact⟨⟨none,i,by simp,rfl⟩,rfl⟩):=h
def aku (h:p:=by
 rw[B d16];exact Ng):=h
def Ng (h:p:=by
 clear c;exact alh):=h
def Nh (h:p:=by
 have i:Hid (some b=k):=c;exact ali):=h
def Ni (h:p:=by
 go_wp2;go_ret;exact⟨_,rfl,V,by rw[j.out];exact h,o⟩):=h
def akv (h:p:=by
 match u,j with
 |0,j=>simp at j;subst j;simp[Addr.add]):=h
def Nj (h:p:=by
 go_wp2;go_ret;exact⟨by rw[<-HR.out]<;>rfl,rfl⟩):=h
def akw (h:p:=by
 go_wp2_with fail;refine(d.out _).mono ?_;rintro l m ⟨rfl,rfl⟩;go_wp2_with fail;refine(e.out _).mono ?_;rintro l m ⟨rfl,rfl⟩;go_wp2_with fail;refine(c.out _).mono ?_;exact ex):=h
def Nk (h:p:=by
 rintro g l ⟨rfl,rfl⟩;go_wp2_with fail;refine(d.out _).mono ?_;exact Nl):=h
def akx (h:p:=by
 go_wp2_with fail;refine(e.out _).mono ?_;exact ex):=h
def Nl (h:p:=by
 rintro m y ⟨rfl,rfl⟩;exact alj):=h
def Nn (h:p:=by
 go_wp2_with fail;exact alk):=h
def aky (h:p:=by
 rw[<-g]at b k;rw[<-h]at c n;clear g h;by_cases i:e<f
 . rw[B i];have hd:decide (e<f)=true:=M;exact hG
 . rw[z i];have hd:decide (e<f)=false:=M;exact hG):=h
def akz (h:p:=by
 rw[B e];exact hG):=h
def akA (h:p:=by
 rw[z e];exact hG):=h
def akB (h:p:=by
 have h:(c==1)=true:=Ib;rw[B f1];exact N1):=h
def akC (h:p:=by
 have h:(c==1)=false:=Ib;rw[z f1];exact N1):=h
def akD (h:p:=by
 go_wp2_with fail;refine s.out.mono ?_;rintro j l ⟨rfl,rfl⟩;go_wp2_with fail;refine t.out.mono ?_;rintro j l ⟨rfl,rfl⟩;exact Np):=h
def Np (h:p:=by
 go_wp2_with fail;go_ret;exact rZ):=h
def akE (h:p:=by
 go_wp2_with fail;refine u.out.mono ?_;rintro j l ⟨rfl,rfl⟩;go_wp2_with fail;refine v.out.mono ?_;rintro j l ⟨rfl,rfl⟩;go_wp2_with fail;go_end0;exact⟨rfl,p.out,p6 F⟩):=h
def akF (h:p:=by
 go_ret;exact⟨rfl,E.out,p6 F⟩):=h
def akG (h:p:=by
 go_wp2_with fail;go_ret2;exact⟨by rw[O.out]<;>rfl,by rw[O.out];exact h.out,f.out⟩):=h
def akH (h:p:=by
 go_ret;exact⟨by rw[e.out]<;>rfl,rfl⟩):=h
def Nq (h:p:=by
 refine⟨rfl,c.out,?_⟩;exact pt):=h
def akI (h:p:=by
 go_end0;exact rZ):=h
def Nt (h:p:=by
 go_wp2_with fail;go_ret;exact⟨by rw[f.out]<;>rfl,j⟩):=h
def akJ (h:p:=by
 go_ret;exact Nq):=h
def Nu (h:p:=by
 go_wp2_with fail;go_ret;exact⟨rfl,a⟩):=h
def akK (h:p:=by
 refine d.out.mono ?_;rintro j l ⟨rfl,rfl⟩;go_wp2_with fail;go_ret2;exact⟨rfl,rfl⟩):=h
def akL (h:p:=by
 go_wp2_with(first|(go_at_call 449;refine B.out.mono ?_;rintro f g ⟨rfl,rfl⟩)|(go_at_call 450;refine A.out.mono ?_;rintro f g ⟨rfl,rfl⟩)|(go_at_call 443;first|((with_reducible refine v.out.mono ?_);rintro f g ⟨rfl,rfl⟩)|((with_reducible refine w.out.mono ?_);rintro f g ⟨rfl,rfl⟩)|((with_reducible refine x.out.mono ?_);rintro f g ⟨rfl,rfl⟩)|((with_reducible refine z.out.mono ?_);rintro f g ⟨rfl,rfl⟩)));exact lR):=h
def Nv (h:p:=by
 subst d;exact N2):=h
def AP (h:p:=by
 replace d:R=((O,0),{c.b with o:=bu c.b.o (f-2147483648) 4 (b+64)}):=d;subst d;exact N3):=h
def Nw (h:p:=by
 go_enter mT,mU;go_wp2_with(first|(first|(go_at_call 391;refine o.out.mono ?_;rintro j l ⟨rfl,rfl⟩)|(go_at_call 392;refine N.out.mono ?_;rintro j l ⟨rfl,rfl⟩)|(go_at_call 444;refine w.out.mono ?_;rintro j l ⟨rfl,rfl⟩)|(go_at_call 443;first|((with_reducible refine x.out.mono ?_);rintro j l ⟨rfl,rfl⟩)|((with_reducible refine A.out.mono ?_);rintro j l ⟨rfl,rfl⟩)|((with_reducible refine C.out.mono ?_);rintro j l ⟨rfl,rfl⟩)|((with_reducible refine E.out.mono ?_);rintro j l ⟨rfl,rfl⟩)|((with_reducible refine H.out.mono ?_);rintro j l ⟨rfl,rfl⟩)|((with_reducible refine K.out.mono ?_);rintro j l ⟨rfl,rfl⟩)|((with_reducible refine L.out.mono ?_);rintro j l ⟨rfl,rfl⟩)))|(go_at_call 428;refine(ay.out (az.out F) (aB.out F)).mono ?_;rintro j w3 ⟨rfl,p,m⟩));exact AX):=h
def AQ (h:p:=by
 replace d:R=((O,0),c.b):=d;exact Nv):=h
def Nx (h:p:=by
 go_enter mT,mU;go_wp2_with(first|(first|(go_at_call 391;refine o.out.mono ?_;rintro j l ⟨rfl,rfl⟩)|(go_at_call 392;refine N.out.mono ?_;rintro j l ⟨rfl,rfl⟩)|(go_at_call 444;refine w.out.mono ?_;rintro j l ⟨rfl,rfl⟩)|(go_at_call 443;first|((with_reducible refine x.out.mono ?_);rintro j l ⟨rfl,rfl⟩)|((with_reducible refine A.out.mono ?_);rintro j l ⟨rfl,rfl⟩)|((with_reducible refine C.out.mono ?_);rintro j l ⟨rfl,rfl⟩)|((with_reducible refine E.out.mono ?_);rintro j l ⟨rfl,rfl⟩)|((with_reducible refine H.out.mono ?_);rintro j l ⟨rfl,rfl⟩)|((with_reducible refine K.out.mono ?_);rintro j l ⟨rfl,rfl⟩)|((with_reducible refine L.out.mono ?_);rintro j l ⟨rfl,rfl⟩)))|(go_at_call 428;refine(aA.out (aB.out F)).mono ?_;rintro j w3 ⟨rfl,p,m⟩));exact AX):=h
def Ny (h:p:=by
 subst d;exact alm):=h
def AR (h:p:=by
 replace d:P=((T,0),{c.b with o:=bu c.b.o aC 4 (b+64)}):=by rw[d];simp
 subst d;as_aux_lemma=>
  exact N3):=h
def AS (h:p:=by
 replace d:P=((T,0),c.b):=by rw[d];simp
 exact Ny):=h
def Nz (h:p:=by
 go_wp2_with(first|(go_at_call 136;refine(e0 _ _).mono ?_;rintro f e ⟨rfl,rfl⟩)|(go_at_call 264;refine(tM _ rk _).mono ?_;rintro f e ⟨rfl,rfl⟩)|(go_at_call 256;refine(mJ _ _).mono ?_;rintro f e ⟨rfl,rfl⟩)|(go_at_call 338;refine(ahS _ _ _).mono ?_;rintro f e ⟨rfl,rfl⟩)|(go_at_call 339;refine(aiC _ _ _).mono ?_;rintro f e ⟨rfl,rfl⟩)|(go_at_call 337;refine(ag3 _ _ m m m m _).mono ?_;rintro f e ⟨rfl,rfl⟩));go_ret;exact⟨eM (by(try simp only[qP]);first|exact Et b a|exact aaX _|exact aaZ b a c d|exact aa0 b a c d|exact aa3 b a c d|exact aa4 b a c d|exact abj b a c d|exact abk b a c d|exact abm b a r HR.out|exact abn b a|(rw[show ky b a=am (aY b/ ((2^r:Nat):Int))by rw[HR.out];rfl];simp)|(rw[show kz b a=b/2^r by rw[HR.out];rfl];simp)|rfl),rfl⟩):=h
def akM (h:p:=by
 refine o.out.mono ?_;exact ex):=h
def NA (h:p:=by
 clear a;exact NB):=h
def NB (h:p:=by
 go_enter func334,ntmps334;exact aln):=h
def akN (h:p:=by
 go_ret;exact⟨rfl,((Kept.refl _ _).alloc _).drewN _⟩):=h
def NC (h:p:=by
 have B:=l.cell 0 _ rfl;have D:=l.cell 1 _ rfl;have I:=l.cell 2 _ rfl;obtain⟨-,J,P⟩:=id l;exact FM):=h
def akO (h:p:=by
 go_wp2_with fail;exact alo):=h
def AT (h:p:=by
 cases af
 . exact pA
 . cases ag
   . cases X
     . exact pA
     . cases W
       . exact N4
       . exact N4
   . cases ah
     . cases X
       . exact N5
       . cases W
         . exact N6
         . exact N6
     . exact N5):=h
def AU (h:p:=by
 go_wp2_with fail;exact ajM):=h
def akP (h:p:=by
 clear e;go_enter oJ,oK;go_wp2_with fail;refine(d.out _).mono ?_;rintro j l ⟨rfl,rfl⟩;exact AU):=h
def akQ (h:p:=by
 go_ret;refine⟨rfl,?_⟩;exact ng):=h
def ND (h:p:=by
 refine(o.out _ (l ay)).mono ?_;exact ajN):=h
def NE (h:p:=by
 obtain⟨bF,bG,bH,bI,bJ,bK,bL,bQ,bR,bM,bS,bN,bT,bO,bU,bP⟩:a8 w3 g.heap.size s V X Y T U:=HN;obtain⟨bV,bW,bX,b2,b3,bY,b4,bZ,b5,b0,b6,b1⟩:av w3 (g.heap.size+1) 0 0:=rR;obtain⟨ba,br,bu,bA,bB,bv,bC,bw,bD,bx,bE,bz⟩:av w3 i.heap.size f d:=rR;go_wp2_with(first|(go_at_call 269;refine(P.out _).mono ?_;rintro E I ⟨rfl,rfl⟩)|(go_at_call 271;refine(Q.out _).mono ?_;rintro E I ⟨rfl,rfl⟩)|(go_at_call 136;refine(R.out _).mono ?_;rintro E I ⟨rfl,rfl⟩));exact ND):=h
def akR (h:p:=by
 go_wp2_with fail;go_end0;refine⟨rfl,i,?_⟩;exact pD):=h
def NF (h:p:=by
 go_upto_region 1 with fail;refine gj ?_;refine wpList_plain rfl (fun p n=>?_);go_simp;refine n _ _ ?_;clear n p;refine wpList_plain rfl (fun p n=>?_);go_simp;refine n _ _ ?_;clear n p;refine wpList_plain rfl (fun p n=>?_);go_simp;refine n _ _ ?_;clear n p;refine ra rfl _ _ rfl c 38 (by rfl) i _ HR.out rb rfl uy ?_;refine wpList_plain rfl (fun p n=>?_);go_simp;refine n _ _ ?_;clear n p;refine gl rfl _ _ _ rfl b.heap.size 0 i.toArray rfl rfl uz uA uB ?_;obtain⟨f,l,d,r⟩:=sr b (#[j 0,j 0,j 0,j 0,j 0,j 0,j 0,j 0,j 0,j 0,j 0,j 0,j 0,j 0,j 0,j 0,j 0,j 0,j 0,j 0,j 0,j 0,j 0]) 71 i.toArray h;rw[<-l];clear l;have d0:al f b.heap.size 0 (j a.c.V5):=ajV;have d1:al f b.heap.size 1 (j a.c.WG):=ajW;have d2:al f b.heap.size 2 (j a.c.V9):=Ha;have d3:al f b.heap.size 3 (j a.c.Wd):=ajX;have d5:al f b.heap.size 5 (j a.c.Wz):=ajY;have d6:al f b.heap.size 6 (j a.c.Wp):=ajZ;have d7:al f b.heap.size 7 (j a.c.W8):=aj0;have d8:al f b.heap.size 8 (j a.c.WK):=aj1;have d9:al f b.heap.size 9 (j a.c.Wm):=aj2;have d10:al f b.heap.size 10 (j a.c.Wx):=aj3;have d11:al f b.heap.size 11 (j a.c.WB):=aj4;have d12:al f b.heap.size 12 (j a.c.WH):=aj5;have d13:al f b.heap.size 13 (j a.c.WA):=aj6;have d14:al f b.heap.size 14 (j a.c.WR):=aj7;have d15:al f b.heap.size 15 (j a.c.Wu):=aj8;have d16:al f b.heap.size 16 (j a.c.WD):=aj9;have d17:al f b.heap.size 17 (j a.c.WI):=aka;have d18:al f b.heap.size 18 (j a.c.Wf):=akb;clear d;refine gm ?_;go_wp2_with fail;go_ret2;exact⟨rfl,r⟩):=h
def akS (h:p:=by
 go_wp2_with(go_at_call 256;refine(mJ _ _).mono ?_;rintro j r ⟨rfl,rfl⟩);exact ajO):=h
def NG (h:p:=by
 clear i;exact FN):=h
def NH (h:p:=by
 clear a c p K L g q w x v Y A u;go_enter func204,ntmps204;go_wp2_with(go_at_call 40;refine(X.out _ C).mono ?_;rintro i y ⟨rfl,rfl⟩);refine(t.out _ C).mono ?_;rintro i N ⟨rfl,b⟩;have E:=l (C.out.kept b);obtain⟨ag,aj,al,an,ap,ar,av,aF,aG,ax,aH,ay,aI,az,aJ,aA⟩:a8 N k.heap.size D H T U P S:=iX;go_wp2_with fail;refine(n.out _ E).mono ?_;rintro i W ⟨rfl,r,e⟩;obtain⟨ai,ak,am,ao,aq,au,aw,aM,aN,aB,aO,aC,aP,aD,aQ,aE⟩:a8 W k.heap.size D H T U P S:=zm;have B:=r.Yr;rw[O]at B;have G:=r.alloc (.cells #[j D,j H,j T,j U,j P,j S] 53);have af:=r.lt;go_upto_region 9 with(go_at_call 135;refine(o.out _).mono ?_;rintro i y ⟨rfl,rfl⟩);go_region_with(first|(go_at_call 281;refine(s.out _).mono ?_;rintro i y ⟨rfl,rfl⟩)|(go_at_call 280;refine(f.out _ (l G.drew)).mono ?_;rintro i w3 ⟨rfl,I,h⟩));all_goals
  go_wp2_with fail;go_end0;refine⟨rfl,I,?_⟩;exact r0):=h
def NI (h:p:=by
 cases t6
 . exact pE
 . cases t7
   . exact pE
   . exact pE):=h
def akT (h:p:=by
 have ap:(a==38)=false:=M;have aq:(a==39)=false:=M;clear k o n s c;go_enter func134,ntmps134;go_wp2_with(first|(go_at_call 196;refine(HR.out _).mono ?_;rintro i P ⟨rfl,rfl⟩)|(go_at_call 193;refine(h.out _).mono ?_;rintro i P ⟨rfl,rfl⟩));refine(d.out _ p).mono ?_;rintro i l ⟨rfl,O,b⟩;obtain⟨W,Z,aa,ab,ad,ae,af,ak,al,ag,am,ah,an,ai,ao,aj⟩:a8 l e.heap.size a w x y u v:=jC;obtain⟨r,A,ar,G,H,B,I,C,J,D,K,E⟩:av l (e.heap.size+1) 0 0:=ih;go_wp2_with fail;refine ac (v:=.agg #[j t,j z]) Gt rfl ⟨rfl,O.box (e.heap.size+1) ?_ m m,?_⟩
 . exact jG
 . exact ng):=h
def akU (h:p:=by
 go_enter func134,ntmps134;go_wp2_with(first|(first|(go_at_call 196;refine(HR.out _).mono ?_;rintro i l ⟨rfl,rfl⟩)|(go_at_call 193;refine(f.out _).mono ?_;rintro i l ⟨rfl,rfl⟩))|(go_at_call 199;refine(on _).mono ?_;rintro i v ⟨rfl,rfl⟩));refine ac (v:=.agg #[j (-1),j 0]) uD rfl ⟨rfl,?_,?_⟩
 . exact vy
 . exact r2):=h
def akV (h:p:=by
 go_wp2_with(first|(go_at_call 196;refine(HR.out _).mono ?_;rintro i S ⟨rfl,rfl⟩)|(go_at_call 193;refine(p.out _).mono ?_;rintro i S ⟨rfl,rfl⟩));refine(h.out _ n).mono ?_;rintro i y ⟨rfl,b⟩;have E:=l (n.out.kept b);obtain⟨W,ag,aj,al,an,ap,ar,aE,aF,aw,aG,ax,aH,ay,aI,az⟩:a8 y d.heap.size a t u v r s:=jC;obtain⟨aQ,aS,aT,aZ,a0,aV,a1,aW,a2,aX,a3,aY⟩:av y (d.heap.size+1) 0 0:=ih;go_wp2_with fail;refine(g.out _ E).mono ?_;rintro i C ⟨rfl,G,e⟩;obtain⟨af,ai,ak,am,ao,aq,au,aJ,aM,aA,aN,aB,aO,aC,aP,aD⟩:a8 C d.heap.size a t u v r s:=zm;obtain⟨H,I,aU,N,O,J,P,K,Q,L,R,M⟩:av C (d.heap.size+1) 0 0:=⟨jA,jA,Hc,ce gU⟩;go_wp2_with(go_at_call 199;refine(on _).mono ?_;rintro i a4 ⟨rfl,rfl⟩);refine ac (v:=.agg #[j (-1),j 0]) (by simp[results,results134,go_sem,H,I,N,O,J,P,K,Q,L,R,M,ej,fb]) rfl ⟨rfl,G.box (d.heap.size+1) ?_ m m,?_⟩
 . exact jG
 . exact z9):=h
def NJ (h:p:=by
 have W:=r.c3;rw[xu]at W;have ad:=y.cell 5 _ rfl;clear aq ar;go_upto_region 28 with fail;go_region_with(first|(go_at_call 394;refine(bO.out _).mono ?_;rintro ak am ⟨rfl,j⟩;have i:=l.drew.kept (Below.kept j []);have B:=i.cell 0 _ rfl;have D:=i.cell 1 _ rfl;have I:=i.cell 2 _ rfl;have J:=i.Wb;have M:=i.lt));all_goals
  have i:=l.drew.kept (Below.kept j []);have B:=i.cell 0 _ rfl;have D:=i.cell 1 _ rfl;have I:=i.cell 2 _ rfl;obtain⟨-,J,M⟩:=id i;have h:=r.drew.kept (Below.kept j []);have s:=z.drew.trans ((Below.kept j []).mono F);go_wp2_with fail;refine ac Gv rfl (aF _ _ ⟨rfl,?_,?_⟩)
  . exact nf
  . exact pz):=h
def NK (h:p:=by
 have B:=i.cell 0 _ rfl;have D:=i.cell 1 _ rfl;have I:=i.cell 2 _ rfl;obtain⟨-,J,M⟩:=id i;exact ajP):=h
def NL (h:p:=by
 go_wp2_with(go_at_call 217;refine(C2 W m _ m m _).mono ?_;rintro D C ⟨⟨z,rfl,G,j⟩,rfl⟩);have B:((a.size:Int)-1- (i:Int)).toNat=a.size-1-i:=J;rw[B]at j;have A:=aaT (c:=a[i]) g f j e;go_round;case rel=>exact⟨i+1,2*c+z,b+1,by omega,by go_num,by go_num,by go_num,by rw[iE a i g,h];exact A⟩
 case measure=>exact a5):=h
def akW (h:p:=by
 go_round;case rel=>exact⟨i+1,c,b,by omega,by go_num,by go_num,by go_num,by rw[iE a i g,h];exact r⟩
 case measure=>exact a5):=h
def NM (h:p:=by
 go_wp2;go_ret;exact⟨congrArg (fun g=>Ending.returned (j g)) (by rw[HR.out];rfl),rfl⟩):=h
def akX (h:p:=by
 go_wp2;exact ac (v:=dy (aX.half _)) (by simp[results,results143,go_sem,dy,aX.half]) rfl ⟨rfl,by repeat(first|exact aq _ _|refine bf ?_ F _|refine bl ?_ F _)⟩):=h
def akY (h:p:=by
 go_round;case rel=>exact⟨i+1,by omega,by go_num,x⟩
 case measure=>exact a5):=h
def NN (h:p:=by
 rw[f2];exact ajQ):=h
def NO (h:p:=by
 have q:(decide (a.held%2=0)&&!a.W6)=false:=ib;have f1:=sy q;have s:(true&&decide (a.held/4%2=0)&&!a.W7)=false:=ic;have f2:c6 a true=a:=by
  unfold c6;rw[f1];exact nH (C:=a) s
 exact NN):=h
def NP (h:p:=by
 clear q s f1 f2 v w x y t o;exact ut):=h
def akZ (h:p:=by
 have b:=l (((d.out.set (C':={a with Wa:=0}) 32 (j 0) rfl m).set (C':={a with Wa:=0,Wg:=(a.Wg+1)%4294967296}) 33 (j (((a.Wg+1)%4294967296:Nat):Int)) rfl m));have c:=l ((((d.out.set (C':={a with Wa:=a.Wa+1}) 32 (j ((a.Wa+1:Nat):Int)) rfl m).set (C':={a with Wa:=0}) 32 (j 0) rfl m).set (C':={a with Wa:=0,Wg:=(a.Wg+1)%4294967296}) 33 (j (((a.Wg+1)%4294967296:Nat):Int)) rfl m));have q:((a.Wa+1:Nat):Int)=(a.Wa:Int)+1:=J;have r:((a.ret+1:Nat):Int)=(a.ret:Int)+1:=J;have s:(((a.Wg+1)%4294967296:Nat):Int)=((a.Wg:Int)+1)%4294967296:=J;have v:(((a.We+1)%4294967296:Nat):Int)=((a.We:Int)+1)%4294967296:=J;try rw[s]at b
 try rw[s]at c
 try rw[v]at b
 try rw[v]at c
 try rw[q]at b
 try rw[q]at c
 try rw[r]at b
 try rw[r]at c
 have w:((a.Wa:Int)+1==4294967296)=true:=jz;exact FH):=h
def NQ (h:p:=by
 clear e f f1 f2 g h i k t p o;exact ut):=h
def ak0 (h:p:=by
 have b:=l ((d.out.set (C':={a with Wa:=a.Wa+1}) 32 (j ((a.Wa+1:Nat):Int)) rfl m));have c:=l ((d.out.set (C':={a with Wa:=a.Wa+1}) 32 (j ((a.Wa+1:Nat):Int)) rfl m));have q:((a.Wa+1:Nat):Int)=(a.Wa:Int)+1:=J;have r:((a.ret+1:Nat):Int)=(a.ret:Int)+1:=J;have s:(((a.Wg+1)%4294967296:Nat):Int)=((a.Wg:Int)+1)%4294967296:=J;have v:(((a.We+1)%4294967296:Nat):Int)=((a.We:Int)+1)%4294967296:=J;try rw[s]at b
 try rw[s]at c
 try rw[v]at b
 try rw[v]at c
 try rw[q]at b
 try rw[q]at c
 try rw[r]at b
 try rw[r]at c
 have w:((a.Wa:Int)+1==4294967296)=false:=gV;exact FH):=h
def ak1 (h:p:=by
 have l:=x.cell 1 _ rfl;have z:=x.cell 2 _ rfl;obtain⟨-,B,F⟩:=id x;go_wp2_with fail;refine ac (by simp[results,results314,go_sem,j,l,z,B,F]) rfl (Z _ _ ⟨rfl,?_,?_⟩)
 . exact nf
 . exact pz):=h
def NR (h:p:=by
 subst x;rw[<-m]at aZ ai ar aw;simp only[<-m]at L4;clear R S w m;go_wp2_with fail;refine(L4 _).out.mono ?_;rintro W a0 ⟨rfl,z⟩;have j:=c.out.kept (Below.k z);have f1:=j.c1;have I:=T a0 j;have D:=l j;have M:=l (v.out.trans (Below.k z));clear z L4 T c v j;go_wp2_with fail;refine I.out.mono ?_;rintro W a1 ⟨rfl,B⟩;have y:=D.out.kept (Below.k B);have f0:=y.V8;have K:=U a1 y;have V:=l (M.out.trans (Below.k B));clear B U D M y I;go_wp2_with fail;refine K.out.mono ?_;rintro W a5 ⟨rfl,ah⟩;have aE:=l (V.out.trans (Below.k ah));clear ah V K;go_wp2_with fail;go_ret;exact⟨rfl,aE.out⟩):=h
def ak2 (h:p:=by
 go_wp2_with fail;go_ret;exact⟨rfl,_,x.out.1,x.out.2.1.of B.out.size,(wN B.out).trans x.out.2.2⟩):=h
def ak3 (h:p:=by
 have D:=l (w.out.trans t);clear t a n w F G;go_wp2_with fail;go_ret;exact⟨rfl,I.out,D.out⟩):=h
def ak4 (h:p:=by
 go_wp2_with fail;go_ret;exact⟨rfl,aR.out,aQ.out⟩):=h
def ak5 (h:p:=by
 go_wp2;go_ret2;exact⟨by rw[p.out];rfl,rfl⟩):=h
def NS (h:p:=by exact⟨rfl,b.trans (s.mono b.size)⟩):=h
def NT (h:p:=by
 go_ret2;exact Mb):=h
def ak6 (h:p:=by
 have HR:=l c;clear c d f;go_enter func223,ntmps223;go_wp2_with(go_at_call 220;refine(HR.out _ (ae.out _)).mono ?_;rintro m u ⟨rfl,j⟩);go_ret;exact⟨rfl,(x _).trans (j.mono (x _).size)⟩):=h
def NU (h:p:=by
 refine ac (v:=.tuple #[bp ⟨#[]⟩ aF ⟨#[]⟩,j 5]) uK rfl ⟨by rw[o.out]<;>rfl,?_⟩;exact My):=h
def ak7 (h:p:=by
 subst ak;clear HR;go_wp2_with fail;refine(Y.out _).mono ?_;rintro g i ⟨rfl,rfl⟩;go_wp2;exact NU):=h
def NV (h:p:=by
 go_ret;exact⟨rfl,(Q.out _).trans (i.mono (Q.out _).size)⟩):=h
def ak8 (h:p:=by
 have HR:=l C;clear C e p;go_enter func152,ntmps152;go_wp2_with(go_at_call 149;refine(HR.out _).mono ?_;rintro m u ⟨rfl,i⟩);exact NV):=h
def ak9 (h:p:=by
 clear p c;go_wp2;go_meet;case rel=>exact⟨by rw[i.out],rfl⟩):=h
def NW (h:p:=by
 clear k l m c;go_wp2_with fail;refine(aU.out _).mono ?_;rintro z w3 ⟨rfl,i⟩;have y:=aB.out.more i;have B:=y.c5;clear y ai aj ak al am an;go_wp2;go_ret2;exact⟨by rw[J.out];unfold u.aG;simp only[hf];rfl,aV.out.trans (i.mono aV.out.size)⟩):=h
def NX (h:p:=by
 go_wp2;go_ret;exact⟨by rw[q.out];rfl,rfl⟩):=h
def ala (h:p:=by
 go_wp2_with fail;go_ret;exact NS):=h
def NY (h:p:=by
 go_wp2_with fail;refine ac (by simp[results,results397,go_sem,aF,aG,aH,aI,aJ]) rfl (aE _ _ ⟨rfl,?_,?_⟩)
 . exact nf
 . exact pz):=h
def NZ (h:p:=by
 have bM:bb.cell? ⟨h,3,none⟩=some (j a.V3):=by rw[<-a8];exact aI.c3
 have b7:=a9.cell 5 _ rfl;go_upto_region 18 with fail;go_region_with(first|(go_at_call 394;refine(bf.out _).mono ?_;rintro b8 b9 ⟨rfl,I⟩;have l:=aH.drew.kept (Below.kept I []);have ad:=l.cell 0 _ rfl;have aM:=l.cell 1 _ rfl;have aN:=l.cell 2 _ rfl;have aO:=l.Wb;have aP:=l.lt));all_goals
  have l:=aH.drew.kept (Below.kept I []);have ad:=l.cell 0 _ rfl;have aM:=l.cell 1 _ rfl;have aN:=l.cell 2 _ rfl;obtain⟨-,aO,aP⟩:=id l;have ab:=aI.drew.kept (Below.kept I []);have ae:=ba.drew.trans ((Below.kept I []).mono F);exact FO):=h
def N0 (h:p:=by
 have j:=L.cell 0 _ rfl;exact FP):=h
def alb (h:p:=by
 have bD:=u.cell 0 _ rfl;have bJ:=u.cell 2 _ rfl;have bc:=cZ A.out.drew.c1 (u.drew.cell 4 _ rfl);have be:=l A.out.drew;go_upto_region 5 with fail;go_region_held3 (fun i=>i.cell? ⟨h,1,none⟩=some (I d)/\i.cell? ⟨n.heap.size,4,none⟩=some (j (b:Int))) (first|exact bc) (first|(go_at_call 429;refine(aJ.out _ be.out).mono ?_;rintro ca cb ⟨rfl,rfl⟩));all_goals
  clear bc be;have aa:=l A.out.drew;have y:=u.drew;have W:=U.drew;have J:=T.drew;clear A u U T bD bJ;have bN:=y.cell 0 _ rfl;have bP:=y.cell 1 _ rfl;have bQ:=y.cell 2 _ rfl;have bR:=y.cell 3 _ rfl;have bS:=y.cell 4 _ rfl;have bT:=y.cell 5 _ rfl;cases bd
  . exact J4
  . exact aki):=h
def alc (h:p:=by
 have bm:=u.cell 0 _ rfl;have bn:=u.cell 2 _ rfl;have aB:=cZ A.out.drew.c1 (u.drew.cell 4 _ rfl);have aS:=l A.out.drew;go_upto_region 5 with fail;go_region_held3 (fun i=>i.cell? ⟨h,1,none⟩=some (I d)/\i.cell? ⟨n.heap.size,4,none⟩=some (j (b:Int))) (first|exact aB) (first|(go_at_call 429;refine(aJ.out _ aS.out).mono ?_;rintro bO bP ⟨rfl,rfl⟩));all_goals
  clear aB aS;have aa:=l A.out.drew;have y:=u.drew;have W:=U.drew;have J:=T.drew;clear A u U T bm bn;have bo:=y.cell 0 _ rfl;have bp:=y.cell 1 _ rfl;have bq:=y.cell 2 _ rfl;have br:=y.cell 3 _ rfl;have bs:=y.cell 4 _ rfl;have bD:=y.cell 5 _ rfl;cases bd
  . exact J4
  . exact akj):=h
def ald (h:p:=by
 rintro D w3 ⟨rfl,l,j⟩;have y:=K.more j ad;have I:=aa.more j ad;clear aZ a0 a1 a2 a3 a4;have ag:=y.cell 4 _ rfl;go_wp2_with fail;refine(aC.out _ _).mono ?_;rintro D ai ⟨rfl,i⟩;have L:=I.kept (Below.kept i []);have ab:=l.kept (Below.kept i []);have ae:=(Z.trans (j.mono F)).trans ((Below.kept i []).mono F);exact vM):=h
def ale (h:p:=by
 rintro j l ⟨rfl,i⟩;have L:=aa.kept (Below.kept i []);have ab:=N.out.kept (Below.kept i []);have ae:=(Z).trans ((Below.kept i []).mono F);exact vM):=h
def alf (h:p:=by
 have J:=L.cell 1 _ rfl;exact ajR):=h
def alg (h:p:=by
 clear c;have l:Hid (b*10+e+1<=10^(i+1)):=by
  show _<=_;have m:=f.out;rw[gd];omega
 clear f;go_wp2;go_round;case rel=>exact⟨i+1,b*10+e,by omega,by go_num,by go_num,l,j⟩
 case measure=>simp[intOf];omega):=h
def alh (h:p:=by
 go_wp2;go_ret2;exact⟨⟨none,(r.out.trans i.out:_=_),by simp,rfl⟩,rfl⟩):=h
def ali (h:p:=by
 clear c hd;go_wp2;go_ret2;exact⟨⟨some b,(r.out.trans i.out.symm:_=_),(by show b<=10000000000;omega),rfl⟩,rfl⟩):=h
def alj (h:p:=by
 go_wp2_with fail;refine(k.out _).mono ?_;exact ex):=h
def alk (h:p:=by
 refine(b.out _).mono ?_;rintro l m ⟨rfl,rfl⟩;go_wp2_with fail;refine(c.out _).mono ?_;exact ex):=h
def N1 (h:p:=by
 clear f1;go_enter func364,ntmps364;exact cn):=h
def N2 (h:p:=by
 go_enter mT,mU;exact ajS):=h
def N3 (h:p:=by
 go_enter mT,mU;go_wp2_with(first|(first|(go_at_call 391;refine o.out.mono ?_;rintro j l ⟨rfl,rfl⟩)|(go_at_call 392;refine N.out.mono ?_;rintro j l ⟨rfl,rfl⟩)|(go_at_call 444;refine w.out.mono ?_;rintro j l ⟨rfl,rfl⟩)|(go_at_call 443;first|((with_reducible refine x.out.mono ?_);rintro j l ⟨rfl,rfl⟩)|((with_reducible refine A.out.mono ?_);rintro j l ⟨rfl,rfl⟩)|((with_reducible refine C.out.mono ?_);rintro j l ⟨rfl,rfl⟩)|((with_reducible refine E.out.mono ?_);rintro j l ⟨rfl,rfl⟩)|((with_reducible refine H.out.mono ?_);rintro j l ⟨rfl,rfl⟩)|((with_reducible refine K.out.mono ?_);rintro j l ⟨rfl,rfl⟩)|((with_reducible refine L.out.mono ?_);rintro j l ⟨rfl,rfl⟩)))|(go_at_call 428;refine(aD.out (az.out F)).mono ?_;rintro j w3 ⟨rfl,p,m⟩));exact AX):=h
def AX (h:p:=by
 go_ret2;exact⟨rfl,a.out.Xy (m.mono F) p,m.mono F⟩):=h
def alm (h:p:=by
 as_aux_lemma=>
  exact N2):=h
def aln (h:p:=by
 go_wp2_with(go_at_call 379;refine o.out.mono ?_;rintro j l ⟨rfl,rfl⟩);go_ret;exact⟨by rw[f.out]<;>rfl,rfl⟩):=h
def alo (h:p:=by
 refine d.out.mono ?_;exact ex):=h
def N4 (h:p:=by
 go_enter func429,ntmps429;go_wp2_with fail;refine d.out.mono ?_;exact FQ):=h
def N5 (h:p:=by
 go_enter func429,ntmps429;go_wp2_with fail;refine d.out.mono ?_;rintro j l ⟨rfl,rfl⟩;go_wp2_with fail;refine(e.out _).mono ?_;exact ex):=h
def N6 (h:p:=by
 go_enter func429,ntmps429;go_wp2_with fail;refine d.out.mono ?_;rintro m y ⟨rfl,rfl⟩;go_wp2_with fail;refine(e.out _).mono ?_;exact FQ):=h
def ajM (h:p:=by
 go_end0;refine⟨rfl,a.out,?_⟩;repeat(first|with_reducible exact Kept.refl _ _|(with_reducible refine Kept.setCell ?_ (.inl F) _)|(with_reducible refine Kept.drew ?_))):=h
def ajN (h:p:=by
 rintro J az ⟨rfl,l,G⟩;obtain⟨N,O,a8,ak,am,S,an,W,au,af,aw,ag⟩:av az (g.heap.size+1) 0 0:=rS;go_wp2_with(first|(go_at_call 199;refine(on _).mono ?_;rintro J cd ⟨rfl,rfl⟩));refine ac (v:=.agg #[j (-1),j 0]) (by simp[results,results200,go_sem,N,O,ak,am,S,an,W,au,af,aw,ag,ej,fb]) rfl ⟨rfl,l.box (g.heap.size+1) ?_ m m,?_⟩
 . exact jG
 . exact Ah):=h
def ajO (h:p:=by
 go_ret2;refine⟨rfl,?_⟩;exact r2):=h
def ajP (h:p:=by
 go_wp2_with fail;refine ac Gv rfl (aF _ _ ⟨rfl,?_,?_⟩)
 . exact nf
 . exact pz):=h
def ajQ (h:p:=by
 have b:=l (d.out);have c:=l (d.out);have j:((a.Wa+1:Nat):Int)=(a.Wa:Int)+1:=J;have m:((a.ret+1:Nat):Int)=(a.ret:Int)+1:=J;have r:(((a.Wg+1)%4294967296:Nat):Int)=((a.Wg:Int)+1)%4294967296:=J;have D:(((a.We+1)%4294967296:Nat):Int)=((a.We:Int)+1)%4294967296:=J;try rw[r]at b
 try rw[r]at c
 try rw[D]at b
 try rw[D]at c
 try rw[j]at b
 try rw[j]at c
 try rw[m]at b
 try rw[m]at c
 clear q s f1 f2 j m r D t;exact ut):=h
def ut (h:p:=by
 go_enter func237,ntmps237;exact ajT):=h
def FH (h:p:=by
 clear e f f1 f2 q r s v t p;exact ut):=h
def FI (h:p:=by
 have j:=BI h yS c;exact akq):=h
def FJ (h:p:=by
 have i:=l (wk h yS c);exact aku):=h
def FK (h:p:=by
 have i:=l (wk h (by rw[<-g.out];exact x) c);exact Ng):=h
def FL (h:p:=by
 refine ac (by simp[results,results396,go_sem,ax,ay,az,aA,aB]) rfl (aw _ _ ⟨rfl,?_,?_⟩)
 . exact nf
 . exact pz):=h
def FM (h:p:=by
 go_wp2_with fail;refine ac (by simp[results,results401,go_sem,B,D,I,J,P]) rfl (O _ _ ⟨rfl,?_,?_⟩)
 . exact nf
 . exact pz):=h
def FN (h:p:=by
 go_enter func319,ntmps319;exact akS):=h
def FO (h:p:=by
 go_wp2_with fail;refine ac (by simp[results,results400,go_sem,ad,aM,aN,aO,aP]) rfl (aK _ _ ⟨rfl,?_,?_⟩)
 . exact KT
 . exact KU):=h
def FP (h:p:=by
 have l:=L.cell 1 _ rfl;obtain⟨-,z,B⟩:=id L;go_wp2_with fail;refine ac (by simp[results,results236,go_sem,j,l,z,B]) rfl (aq _ _ ⟨rfl,?_,?_⟩)
 . exact nf
 . exact ab.setCell (ci aL) _ |>.setCell (ci aL) _):=h
def ajR (h:p:=by
 have R:=L.cell 2 _ rfl;obtain⟨-,W,ad⟩:=id L;go_wp2_with fail;refine ac (by simp[results,results367,go_sem,F,J,R,W,ad]) rfl (au _ _ ⟨rfl,?_,?_⟩)
 . exact KT
 . exact KU):=h
def ajS (h:p:=by
 go_wp2_with(first|(go_at_call 391;refine o.out.mono ?_;rintro j l ⟨rfl,rfl⟩)|(go_at_call 392;refine N.out.mono ?_;rintro j l ⟨rfl,rfl⟩)|(go_at_call 444;refine w.out.mono ?_;rintro j l ⟨rfl,rfl⟩)|(go_at_call 443;first|((with_reducible refine x.out.mono ?_);rintro j l ⟨rfl,rfl⟩)|((with_reducible refine A.out.mono ?_);rintro j l ⟨rfl,rfl⟩)|((with_reducible refine C.out.mono ?_);rintro j l ⟨rfl,rfl⟩)|((with_reducible refine E.out.mono ?_);rintro j l ⟨rfl,rfl⟩)|((with_reducible refine H.out.mono ?_);rintro j l ⟨rfl,rfl⟩)|((with_reducible refine K.out.mono ?_);rintro j l ⟨rfl,rfl⟩)|((with_reducible refine L.out.mono ?_);rintro j l ⟨rfl,rfl⟩)));go_ret2;exact⟨rfl,a.out,Kept.refl _ _⟩):=h
def FQ (h:p:=by
 rintro j l ⟨rfl,rfl⟩;go_wp2_with fail;refine(k.out _).mono ?_;rintro j l ⟨rfl,rfl⟩;go_wp2_with fail;go_ret;exact⟨rfl,rfl⟩):=h
def ajT (h:p:=by
 go_wp2_with fail;refine(V.out _).mono ?_;rintro l I ⟨rfl,rfl⟩;go_wp2_with fail;refine(W.out _).mono ?_;rintro l I ⟨rfl,rfl⟩;go_wp2_with fail;go_end0;refine⟨rfl,?_,?_⟩
 . first|with_reducible exact b.out|with_reducible exact c.out
 . repeat(first|with_reducible exact Kept.refl _ _|(with_reducible refine Kept.setCell ?_ (.inl F) _))):=h
def R (h:p:=by decide):=h
def ad (h:p:=by simp;omega):=h
def m (h:p:=by omega):=h
def FR (h:p:=by simp[results,results428,go_sem]):=h
def F (h:p:=by simp):=h
def uv (h:p:=by rw[e];omega):=h
def uw (h:p:=by rw[k];omega):=h
def m0 (h:p:=by simp[A]):=h
def rk (h:p:=by assumption):=h
def oV (h:p:=by simp[results,results345,go_sem,ee]):=h
def aL (h:p:=by simp<;>omega):=h
def FT (h:p:=by repeat(first|(with_reducible exact Kept.refl _ _)|(with_reducible refine Kept.setCell ?_ (ci (by simp<;>omega)) _)|(with_reducible refine Kept.drew ?_)|(with_reducible refine Kept.alloc ?_ _)|(with_reducible refine Kept.trans ?_ (Below.kept n _)))):=h
def gp (h:p:=by repeat(first|(with_reducible exact Kept.refl _ _)|(with_reducible refine Kept.setCell ?_ (ci (by simp<;>omega)) _)|(with_reducible refine Kept.drew ?_)|(with_reducible refine Kept.alloc ?_ _))):=h
def rl (h:p:=by(try simp);(try rw[ec _ _ _ _ (by simp<;>omega)]);(try simp)):=h
def yD (h:p:=by simp[results,results346,go_sem]):=h
def ux (h:p:=by simp[results,results344,go_sem]):=h
def FU (h:p:=by simp[results,results344,go_sem,e]):=h
def FV (h:p:=by repeat(first|(with_reducible exact Kept.refl _ _)|(with_reducible refine Kept.setCell ?_ (ci (by simp<;>omega)) _)|(with_reducible refine Kept.drew ?_)|(with_reducible refine Kept.alloc ?_ _)|(with_reducible refine Kept.trans ?_ a))):=h
def yE (h:p:=by simp[results,results378,go_sem]):=h
def yF (h:p:=by repeat(first|(with_reducible exact Kept.refl _ _)|(with_reducible refine Kept.setCell ?_ (ci (by simp<;>omega)) _)|(with_reducible refine Kept.drew ?_)|(with_reducible refine Kept.alloc ?_ _)|(with_reducible refine Kept.trans ?_ f)|(with_reducible exact f))):=h
def yG (h:p:=by simp[results,results333,go_sem]):=h
def FX (h:p:=by simp[results,results261,go_sem,X,V,ej,fb]):=h
def yH (h:p:=by simp[results,results192,go_sem,T,U,V,ej,fb]):=h
def FY (h:p:=by simp[results,results132,go_sem,aq,ar,au,ej,fb]):=h
def FZ (h:p:=by simp[results,results132,go_sem,R,T,U,ej,fb]):=h
def yI (h:p:=by simp[results,results340,go_sem,Q,R,U,V,T,X,ej,fb]):=h
def yJ (h:p:=by simp[results,results268,go_sem,Z,aa,ap,aq,aD,aE,ai,ay,aJ,aj,ab,ak,ae,al,ag,ao,ah,az,ar,aA,au,aB,aw,aC,ax,aK,aF,aM,aG,aN,aH,aO,aI,ej,fb]):=h
def F0 (h:p:=by simp[results,results268,go_sem,a9,ba,bk,bl,bv,bw,bf,bq,bC,bg,bb,bh,bc,bi,bd,bj,be,br,bm,bs,bn,bt,bo,bu,bp,bD,bx,bE,bz,bF,bA,bG,bB,ej,fb]):=h
def yK (h:p:=by repeat(first|(with_reducible exact b.out)|(with_reducible refine E.alloc ?_ _)|(with_reducible refine E.drew ?_))):=h
def oW (h:p:=by simp[Value.oneCell']):=h
def oX (h:p:=by simp[results,results419,go_sem,ak,am,an,ao,ap,aq]):=h
def F2 (h:p:=by first|rw[g.out,ah.out,T.out,Int.natCast_add]|rw[g.out,T.out,Int.natCast_add]):=h
def kd (h:p:=by simp[results,results207,go_sem,aO,b,c]):=h
def yL (h:p:=by simp[results,results208,go_sem,aO,c,d]):=h
def F3 (h:p:=by simp[results,results139,go_sem,aO,g,h]):=h
def F4 (h:p:=by simp[results,results140,go_sem,y0,y1,y2,y3,y4,p]):=h
def F5 (h:p:=by rw[show(a.V7 (ba k f d).2).b=(ba k f d).2 from rfl,aA];exact p.2 v):=h
def F6 (h:p:=by have:=Int.natCast_nonneg (q*256^d);exact Int.le_trans (by decide) this):=h
def F7 (h:p:=by have:q*256^d<=w+q*256^d:=Nat.le_add_left _ _;have i:q*256^d<4294967296:=bL this A;generalize q*256^d=Z at i;omega):=h
def uy (h:p:=by rw[wH,o.out];rfl):=h
def uz (h:p:=by rw[h];exact Bf b #[j 0,j 0,j 0,j 0,j 0,j 0,j 0,j 0,j 0,j 0,j 0,j 0,j 0,j 0,j 0,j 0,j 0,j 0,j 0,j 0,j 0,j 0,j 0] 71):=h
def uA (h:p:=by rw[wH,h]):=h
def uB (h:p:=by rw[o.out];simp[fr,Value.oneCell']):=h
def oY (h:p:=by rw[d];rfl):=h
def uC (h:p:=by rw[h];rfl):=h
def F8 (h:p:=by(repeat(first|(with_reducible exact Kept.refl _ _)|(with_reducible refine Kept.setCell ?_ (ci (by simp<;>omega)) _)|(with_reducible refine Kept.drew ?_)|(with_reducible refine Kept.drewN ?_ _)|(with_reducible refine Kept.alloc ?_ _)))):=h
def uD (h:p:=by simp[results,results134,go_sem,ej,fb]):=h
def uE (h:p:=by simp[results,results82,go_sem, *]):=h
def co (h:p:=by dsimp only;decide):=h
def yM (h:p:=by rw[C.jk _ _ (by simpa using n)];omega):=h
def Ga (h:p:=by rw[B ⟨rfl,Z.out⟩];simp):=h
def Gb (h:p:=by simp[results,results142,go_sem,n,o,p,q,r,s]):=h
def Gc (h:p:=by simp[results,results88,go_sem,e,f,g,h,k,l]):=h
def Gd (h:p:=by have:(2:Nat)^16=65536:=(by decide);omega):=h
def yN (h:p:=by intro m j;simp at j|-;omega):=h
def m1 (h:p:=by simp[results,results38,go_sem, *]):=h
def uF (h:p:=by simp[sD,ss,tl,sY,Value.oneCell']):=h
def aQ (h:p:=by kernel_rfl):=h
def Ge (h:p:=by repeat(first|(with_reducible exact f.out)|(with_reducible refine E.alloc ?_ _)|(with_reducible refine E.drew ?_))):=h
def hE (h:p:=by simp[aN.WV]):=h
def rm (h:p:=by simpa using p):=h
def jy (h:p:=by simpa using a):=h
def Gf (h:p:=by intro i g;simp at g;subst g;rfl):=h
def Gg (h:p:=by rw[(nT a g k).2.2];omega):=h
def yO (h:p:=by have:=w.out;omega):=h
def uG (h:p:=by simp[results,results373,go_sem,du,bp,aF]):=h
def uH (h:p:=by simp[results,results374,go_sem,du,bp,aF]):=h
def m2 (h:p:=by simp[results,results329,go_sem,du,eq,bp,aF]):=h
def Gh (h:p:=by rw[k];simp[ByteArray.size];omega):=h
def yP (h:p:=by simp[results,results254,go_sem,eq,bp,aF,ag,ah,ai,aj,ak,al,am,an,ao,ap]):=h
def uI (h:p:=by rw[q.out.2,G]):=h
def uJ (h:p:=by rw[q.out.2,<-bD.out];exact aZ):=h
def uK (h:p:=by simp[results,results182,go_sem,kT,bp,aF,eL]):=h
def uL (h:p:=by simp[results,results182,go_sem,kT,bp,aF,eL,y0,y1,y2,y3,y4,bF,bG,bH,bI,bJ]):=h
def uM (h:p:=by simp;have:=bK.out;omega):=h
def yQ (h:p:=by have:=t.s1;omega):=h
def iU (h:p:=by simp[results,results310,go_sem,bE,aF,y0,y1,y2,y3,y4,G,H,I,J,N,O,P,Q,R,S,T,V,X,Y,Z,aa,ab,ae,af]):=h
def ro (h:p:=by simp[results,results229,go_sem,bE,aF,am,an,ao,ap,ar,au,av,aw,ax,ay,az,aA,aG,aH,aI,aJ,aK,aL,aM,aN,aO,aP,aQ,aS]):=h
def oZ (h:p:=by simp[results,results154,go_sem,bE,aF,I,J,N,O,P,Q,S,T,V,W,X,Y,ay,az,aA,aD,aE,aG,aH,aI,aJ,aK,aL,aM]):=h
def rp (h:p:=by first|exact aB _|omega|simp):=h
def rq (h:p:=by first|omega|simp):=h
def uN (h:p:=by rw[aj,v,<-k];exact a):=h
def Gk (h:p:=by first|(simp;done)|(simp[*];done)|((repeat rw[ec _ _ _ _ (by first|omega|(simp<;>omega))]);first|assumption|(simp;done)|(simp[*];done))):=h
def Gl (h:p:=by first|(simp;done)|(simp[*];done)|((repeat rw[eB _ _ _ _ (by first|omega|(simp<;>omega))]);first|(simp;done)|(simp[*];done))):=h
def uO (h:p:=by rw[ec _ _ _ _ (by first|omega|(simp<;>omega))];rw[ec _ _ _ _ (by first|omega|(simp<;>omega))];rw[fK _ _ _ _ _ (by first|omega|(simp<;>omega))];rfl):=h
def uP (h:p:=by rw[eB _ _ _ _ (by first|omega|(simp<;>omega))];rw[eB _ _ _ _ (by first|omega|(simp<;>omega))];rw[fp _ _ _ _ _ (by first|omega|(simp<;>omega))]):=h
def rr (h:p:=by rw[ec _ _ _ _ (by first|omega|(simp<;>omega))];rw[fK _ _ _ _ _ (by first|omega|(simp<;>omega))];rfl):=h
def rt (h:p:=by rw[eB _ _ _ _ (by first|omega|(simp<;>omega))];rw[fp _ _ _ _ _ (by first|omega|(simp<;>omega))]):=h
def ru (h:p:=by rw[fK _ _ _ _ _ (by first|omega|(simp<;>omega))];rfl):=h
def rv (h:p:=by rw[fp _ _ _ _ _ (by first|omega|(simp<;>omega))]):=h
def Gn (h:p:=by rw[ec _ _ _ _ (by first|omega|(simp<;>omega))];rw[ec _ _ _ _ (by first|omega|(simp<;>omega))];rw[ec _ _ _ _ (by first|omega|(simp<;>omega))];assumption):=h
def Gp (h:p:=by rw[eB _ _ _ _ (by first|omega|(simp<;>omega))];rw[eB _ _ _ _ (by first|omega|(simp<;>omega))];rw[eB _ _ _ _ (by first|omega|(simp<;>omega))];first|assumption|(simp[*];done)):=h
def aK (h:p:=by first|omega|(simp<;>omega)):=h
def Gq (h:p:=by rw[ec _ _ _ _ (by first|omega|(simp<;>omega))];assumption):=h
def Gr (h:p:=by rw[eB _ _ _ _ (by first|omega|(simp<;>omega))];first|assumption|(simp[*];done)):=h
def yR (h:p:=by first|assumption|(simp[*];done)):=h
def ea (h:p:=by rw[o.out];rfl):=h
def Gs (h:p:=by first|assumption|(rw[fp _ _ _ _ _ (by simp[World.setCell])];done)|(simp;done)|(simp[*];done)):=h
def yS (h:p:=by rw[<-g.out];omega):=h
def Gt (h:p:=by simp[results,results134,go_sem,r,A,G,H,B,I,C,J,D,K,E,ej,fb]):=h
def uQ (h:p:=by simp;have:=D.size;have:=I.lt;omega):=h
def Gu (h:p:=by simp[results,results329,go_sem,du,eq,bp,aF,m,u,y,z,B,D,K,L]):=h
def Gv (h:p:=by simp[results,results399,go_sem,B,D,I,J,M]):=h
end Go.Proofs.YtmlgonbhoknoiaaGreatDoor
