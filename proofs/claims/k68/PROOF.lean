import PyProof.Rows.All
import Wide.All
import OpenK.AllK
import Wide.FinOn
import HandS.Words
import HandS.Defaults
import HandS.ExcInit
import HandS.Head0
import HandS.Head1
import HandS.Head2
import HandS.HeadEnd
import HandS.HeadHook1
import HandS.HeadHook2
import HandS.HeadHook3
import HandS.ForMost
import HandS.Zip
import KE.GoesNew
import HandS.More
import HandS.WrittenGet
import HandS.Walk
import HandS.Wide
import HandS.IsInst
import HandS.MakeKwOnly
import HandS.EndBits
import HandS.ForExc
import HandS.ExcField
import HandS.ExcOwn
import HandS.WordsExc
import HandS.FStr
import HandS.TryOnly
import KE.KExcIs
import HandS.TupAny
import HandS.TupMul
import PyProof.SumAnyB
import KE.GoesEnum
import HandS.ExcSuper
import HandS.ExcCtx
import HandS.HotCalls
import HandS.Star
import HandS.CallLocal
import PyProof.ExcBaseAll.Exception
import HandS.Flt
import HandS.Small
import HandS.FStrTup
import HandS.ExcValue
import KE.KDictKeyed
import KE.KDictDisplayH
import HandS.DictComp
import HandS.Iter
import HandS.RaiseFrom
import KE.KTryMore
import HandS.SuiteRaise
import HandS.ExcInitHot
import HandS.Comp
import HandS.Exc
import KE.KAsSuite
import PySem.Challenge.RW_ringgates_k68_limits_of_stands_and_pairs
set_option Elab.async false
set_option maxRecDepth 100000
set_option maxHeartbeats 4000000
set_option linter.all false
namespace Rg
open PySem PySem.Spec L2
abbrev AlR : Type := Bool × List He.FnW × List (Option (List (Option (Str × Int))))
def obsR (ex : PySem.W.Frag → Bool) (fn : List He.DefD) (ts : List He.Tab) (K : PySem.W.Frag) : AlR := (ex K && fn.all fun d => d.ok K, fn.map fun d => He.fnW K d.at_, ts.map fun t => He.dicW K (t.1 K))
def valR (fn : List He.DefD) (ts : List He.Tab) (w : World) : AlR := (true, fn.map He.DefD.val, ts.map fun t => some (He.keysIn w.params t.2))
def hookR (as : List Addr) (ex : PySem.W.Frag → Bool) (fn : List He.DefD) (ts : List He.Tab) : PySem.W.Hook where
  α := AlR
  obs := fun s => obsR ex fn ts (He.frG s.heap.get? as)
  val := fun w => valR fn ts w
  says := fun w h => ∃ K : PySem.W.Frag, K.In h ∧ obsR ex fn ts K = valR fn ts w
  of := fun _ _ e => ⟨_, He.frG_in, e⟩
  keeps := fun _ _ _ ⟨K, hK, c⟩ k => ⟨K, PySem.W.Frag.In.keeps hK k, c⟩
section
variable {ex : PySem.W.Frag → Bool} {fn : List He.DefD} {ts : List He.Tab} {w : World} {K : PySem.W.Frag}
theorem hr_ex (c : obsR ex fn ts K = valR fn ts w) : ex K = true := (He.ba (show (ex K && fn.all fun d => d.ok K) = true from congrArg (fun z : AlR => z.1) c)).1
theorem hr_funD (c : obsR ex fn ts K = valR fn ts w) (i : Nat) {d : He.DefD} (h : fn[i]? = some d) : ∃ fd, FunD K d.name d.qual d.params d.body d.scope (d.dvs K) (d.kws K) (He.fAd K d.at_) fd := by
  have c2 := (He.ba (show (ex K && fn.all fun d => d.ok K) = true from congrArg (fun z : AlR => z.1) c)).2
  have e : fn.map (fun d => He.fnW K d.at_) = fn.map He.DefD.val := congrArg (fun z : AlR => z.2.1) c
  have e2 : (fn.map fun d => He.fnW K d.at_)[i]? = (fn.map He.DefD.val)[i]? := by rw [e]
  rw [List.getElem?_map, List.getElem?_map, h] at e2
  exact He.DefD.funD (Option.some.inj e2) (List.all_eq_true.mp c2 d (List.mem_of_getElem? h))
/-- a def without defaults, as the ends want it -/
theorem hr_def (c : obsR ex fn ts K = valR fn ts w) (i : Nat) {d : He.DefD} (h : fn[i]? = some d) (hd : d.dfl = []) :
    ∃ oc od kV dc pm an cd ct sl, K.lookup (He.fAd K d.at_) = some ⟨oc, od, .func (PySem.W.fnOf d.name d.qual d.params d.body d.scope .none kV dc pm an cd ct), sl⟩ ∧ PySem.W.codeIn K cd d.qual = true ∧ PySem.W.keepIn K (.ref (He.fAd K d.at_)) = true ∧ KwdV K kV (d.kws K) := by
  obtain ⟨fd, ⟨oc, od, dV, kV, doc, pm, an, cdv, ct, osl, e, l, cd, dv, kw⟩, kp⟩ := hr_funD c i h
  subst e
  have ed : d.dvs K = [] := by unfold He.DefD.dvs; rw [hd]; rfl
  rw [ed] at dv
  rcases dv with ⟨_, rfl⟩ | ⟨z, _⟩
  · exact ⟨oc, od, kV, doc, pm, an, cdv, ct, osl, l, cd, kp, kw⟩
  · exact absurd rfl z
/-- what is not asked of a def's object, in one (so that the ends take it apart once) -/
structure HD where
  oc : Value
  od : Option Addr
  kV : Value
  dc : Value
  pm : Value
  an : Option Addr
  cd : Value
  ct : Value
  sl : Array (Option Value)
theorem hr_def2 (c : obsR ex fn ts K = valR fn ts w) (i : Nat) {d : He.DefD} (h : fn[i]? = some d) (hd : d.dfl = []) :
    ∃ z : HD, K.lookup (He.fAd K d.at_) = some ⟨z.oc, z.od, .func (PySem.W.fnOf d.name d.qual d.params d.body d.scope .none z.kV z.dc z.pm z.an z.cd z.ct), z.sl⟩ ∧ PySem.W.codeIn K z.cd d.qual = true ∧ PySem.W.keepIn K (.ref (He.fAd K d.at_)) = true := by
  obtain ⟨oc, od, kV, dc, pm, an, cd, ct, sl, l, c, k, _⟩ := hr_def c i h hd
  exact ⟨⟨oc, od, kV, dc, pm, an, cd, ct, sl⟩, l, c, k⟩
theorem hr_tab (c : obsR ex fn ts K = valR fn ts w) (i : Nat) {t : He.Tab} (h : ts[i]? = some t) : ∃ es n, KDict K w (t.1 K) es n := by
  have e : ts.map (fun t => He.dicW K (t.1 K)) = ts.map fun t => some (He.keysIn w.params t.2) := congrArg (fun z : AlR => z.2.2) c
  have e2 : (ts.map fun t => He.dicW K (t.1 K))[i]? = (ts.map fun t => some (He.keysIn w.params t.2))[i]? := by rw [e]
  rw [List.getElem?_map, List.getElem?_map, h] at e2
  exact He.dicW_ok (Option.some.inj e2)
end
structure Ck where
  ex : PySem.W.Frag → Bool
  fn : List He.DefD
  ts : List He.Tab
def Ck.ok (c : Ck) (w : World) (K : PySem.W.Frag) : Prop := obsR c.ex c.fn c.ts K = valR c.fn c.ts w
def hookL (as : List Addr) (cs : List Ck) : PySem.W.Hook where
  α := List AlR
  obs := fun s => cs.map fun c => obsR c.ex c.fn c.ts (He.frG s.heap.get? as)
  val := fun w => cs.map fun c => valR c.fn c.ts w
  says := fun w h => ∃ K : PySem.W.Frag, K.In h ∧ ∀ c ∈ cs, c.ok w K
  of := fun _ _ e => ⟨_, He.frG_in, fun c hc => show obsR c.ex c.fn c.ts _ = valR c.fn c.ts _ from List.map_inj_left.mp e c hc⟩
  keeps := fun _ _ _ ⟨K, hK, c⟩ k => ⟨K, PySem.W.Frag.In.keeps hK k, c⟩
def obR (as : List Addr) (c : Ck) (s : PySem.W.SharedT) : AlR := obsR c.ex c.fn c.ts (He.frG (HandSHeadRun.getT s) as)
def obL (as : List Addr) (cs : List Ck) (s : PySem.W.SharedT) : List AlR := cs.map fun c => obR as c s
theorem obL_eq {as : List Addr} {cs : List Ck} (s : PySem.W.SharedT) : (obL as cs s : (hookL as cs).α) = (hookL as cs).obs s.abs := by
  have e : HandSHeadRun.getT s = s.abs.heap.get? := funext (HandSHeadRun.getT_eq s)
  unfold obL obR
  rw [e]
  rfl
abbrev RunC (r : PySem.W.OpenRow) (q : Program) (as : List Addr) (c : Ck) (M : Nat) (loose : List Str) (w : World) : Prop := HandSHeadRun.RunEq r q (hookR as c.ex c.fn c.ts) (obR as c) M loose w
theorem run_all {r : PySem.W.OpenRow} {q : Program} {as : List Addr} {c0 : Ck} {cs : List Ck} {M : Nat} {loose : List Str} {w : World} (h : ∀ c ∈ c0 :: cs, RunC r q as c M loose w) : HandSHeadRun.RunEq r q (hookL as (c0 :: cs)) (obL as (c0 :: cs)) M loose w := by
  intro os
  have h0 := h c0 List.mem_cons_self os
  obtain ⟨s, hs, e⟩ := Option.map_eq_some_iff.mp h0
  rw [hs]
  have e1 := congrArg Prod.fst e
  have e2 := congrArg (fun z => z.2.1) e
  dsimp only at e1 e2
  refine congrArg some ?_
  refine Prod.ext e1 (Prod.ext e2 ?_)
  show (c0 :: cs).map (fun c => obR as c s) = (c0 :: cs).map fun c => valR c.fn c.ts w
  refine List.map_congr_left fun c hc => ?_
  have h1 := h c hc os
  rw [hs] at h1
  have e3 := Option.some.inj h1
  exact congrArg (fun z => z.2.2) e3
section
variable {K : PySem.W.Frag}
def intF (K : PySem.W.Frag) (a : Addr) (x : Str) (i : Int) : Bool := match PySem.W.nsIn K a x with
  | some (some (.int j _)) => decide (j = i)
  | _ => false
theorem intF_ok {a : Addr} {x : Str} {i : Int} (h : intF K a x i = true) : ∃ t, PySem.W.nsIn K a x = some (some (.int i t)) := by
  unfold intF at h
  split at h
  · next j t e => exact ⟨t, by rw [e, of_decide_eq_true h]⟩
  · cases h
def strF (K : PySem.W.Frag) (a : Addr) (x z : Str) : Bool := match PySem.W.nsIn K a x with
  | some (some (.str y _)) => decide (y = z)
  | _ => false
theorem strF_ok {a : Addr} {x z : Str} (h : strF K a x z = true) : ∃ t, PySem.W.nsIn K a x = some (some (.str z t)) := by
  unfold strF at h
  split at h
  · next j t e => exact ⟨t, by rw [e, of_decide_eq_true h]⟩
  · cases h
def clsF (K : PySem.W.Frag) (c mc : Value) (m : Str) (v : Value) : Bool := match PySem.W.findCls K c mc m with
  | some (.val u) => decide (u = v)
  | _ => false
theorem clsF_ok {c mc v : Value} {m : Str} (h : clsF K c mc m v = true) : PySem.W.findCls K c mc m = some (.val v) := by
  unfold clsF at h
  split at h
  · next u e => rw [e, of_decide_eq_true h]
  · cases h
/-- a class of errors -/
def excF (K : PySem.W.Frag) (C : Addr) (bm : List Value) (nw : String) : Bool := match K.lookup C with
  | some ⟨.type t, _, .cls cd, sl⟩ => (match cd.mro, sl.toList with
    | .ref C' :: b, [_, _, _, _, some (.builtin n), _] => decide (t = "type") && (decide (C' = C) && (decide (n = nw) && (!cd.hasDel && (cd.hasDict && decide (b = bm)))))
    | _, _ => false)
  | _ => false
theorem excF_ok {C : Addr} {bm : List Value} {nw : String} (h : excF K C bm nw = true) : ∃ nm q N bs sn sub ab col dd k0 k1 k2 k3 k5, K.lookup C = some (excClassObj nm q C N bs bm true sn sub ab col dd k0 k1 k2 k3 k5 nw) := by
  unfold excF at h
  split at h
  · rename_i t dd cd sl ho
    split at h
    · rename_i C' b k0 k1 k2 k3 n k5 hm hs
      simp only [Bool.and_eq_true, decide_eq_true_eq, Bool.not_eq_true'] at h
      obtain ⟨rfl, rfl, rfl, hdel, hdict, rfl⟩ := h
      obtain ⟨nm, bs, mro, ns, qn, hd, sn, sub, ab, col, del⟩ := cd
      dsimp only at hm hdel hdict
      subst hm hdel hdict
      have hsl : sl = #[k0, k1, k2, k3, some (.builtin n), k5] := by
        obtain ⟨l⟩ := sl
        simp only at hs
        rw [hs]
      subst hsl
      exact ⟨nm, qn, ns, bs, sn, sub, ab, col, dd, k0, k1, k2, k3, k5, ho⟩
    · cases h
  · cases h
/-- a tuple of texts -/
def strsB : List Value → List Str → Bool
  | [], [] => true
  | .str y _ :: us, z :: zs => decide (y = z) && strsB us zs
  | _, _ => false
def tupF (K : PySem.W.Frag) (a : Addr) (zs : List Str) : Bool := match K.lookup a with
  | some ⟨.type c, _, .seq its _, _⟩ => decide (c = "tuple") && strsB its.toList zs
  | _ => false
theorem strsB_cons {us : List Value} {z : Str} {zs : List Str} (h : strsB us (z :: zs) = true) : ∃ t r, us = .str z t :: r ∧ strsB r zs = true := by
  cases us with
  | nil => cases h
  | cons u r =>
    cases u with
    | str y t =>
      obtain ⟨h1, h2⟩ := He.ba (show (decide (y = z) && strsB r zs) = true from h)
      have e : y = z := of_decide_eq_true h1
      subst e
      exact ⟨t, r, rfl, h2⟩
    | _ => cases h
theorem strsB_nil {us : List Value} (h : strsB us [] = true) : us = [] := by
  cases us with
  | nil => rfl
  | cons u r => cases u <;> cases h
theorem tupF_ok {a : Addr} {z0 z1 z2 z3 z4 z5 z6 z7 : Str} (h : tupF K a [z0, z1, z2, z3, z4, z5, z6, z7] = true) :
    ∃ d n sl u0 u1 u2 u3 u4 u5 u6 u7, K.lookup a = some ⟨.type "tuple", d, .seq #[.str z0 u0, .str z1 u1, .str z2 u2, .str z3 u3, .str z4 u4, .str z5 u5, .str z6 u6, .str z7 u7] n, sl⟩ := by
  unfold tupF at h
  split at h
  · rename_i c d its n sl e
    obtain ⟨h1, h2⟩ := He.ba h
    have ec : c = "tuple" := of_decide_eq_true h1
    subst ec
    obtain ⟨l⟩ := its
    obtain ⟨u0, r0, e0, h2⟩ := strsB_cons h2
    obtain ⟨u1, r1, e1, h2⟩ := strsB_cons h2
    obtain ⟨u2, r2, e2, h2⟩ := strsB_cons h2
    obtain ⟨u3, r3, e3, h2⟩ := strsB_cons h2
    obtain ⟨u4, r4, e4, h2⟩ := strsB_cons h2
    obtain ⟨u5, r5, e5, h2⟩ := strsB_cons h2
    obtain ⟨u6, r6, e6, h2⟩ := strsB_cons h2
    obtain ⟨u7, r7, e7, h2⟩ := strsB_cons h2
    have er : r7 = [] := strsB_nil h2
    subst er
    subst e7
    subst e6
    subst e5
    subst e4
    subst e3
    subst e2
    subst e1
    dsimp only at e0
    subst e0
    exact ⟨d, n, sl, u0, u1, u2, u3, u4, u5, u6, u7, e⟩
  · cases h
theorem kw_int {kV : Value} {x : Str} {i : Int} (h : KwdV K kV [(x, V.int i)]) : ∃ D t, kV = .ref D ∧ PySem.W.nsIn K D x = some (some (.int i t)) := by
  rcases h with z | ⟨D, e, q⟩
  · cases z
  · obtain ⟨u, h1, h2⟩ := q (x, V.int i) (List.mem_singleton.mpr rfl)
    obtain ⟨t, rfl⟩ := h2
    exact ⟨D, t, e, h1⟩
end
end Rg
namespace Rg
open PySem PySem.Spec L2
def top (i : Nat) : Stmt := PySem.Challenge.pw_ringgates_k68_limits_of_stands_and_pairs.main.body.getD i (.Pass ⟨0, 0, 0, 0⟩)
abbrev s_RingError__init : Stmt := inClass (top 1) 0
theorem sc_RingError__init : FnScope ["self", "what"] ["self", "what"] (defScope s_RingError__init) := ⟨rfl, rfl, rfl, by decide +kernel, rfl, by decide +kernel, by decide +kernel⟩
abbrev s_TooMany__init : Stmt := inClass (top 7) 0
theorem sc_TooMany__init : FnScope ["self", "what"] ["self", "what"] (defScope s_TooMany__init) := ⟨rfl, rfl, rfl, by decide +kernel, rfl, by decide +kernel, by decide +kernel⟩
abbrev s_is_whole : Stmt := top 18
theorem sc_is_whole : FnScope ["number"] ["number"] (defScope s_is_whole) := ⟨rfl, rfl, rfl, by decide +kernel, rfl, by decide +kernel, by decide +kernel⟩
abbrev s_is_below : Stmt := top 19
theorem sc_is_below : FnScope ["number", "bound"] ["number", "bound"] (defScope s_is_below) := ⟨rfl, rfl, rfl, by decide +kernel, rfl, by decide +kernel, by decide +kernel⟩
abbrev s_is_ring : Stmt := top 20
theorem sc_is_ring : FnScope ["number"] ["number"] (defScope s_is_ring) := ⟨rfl, rfl, rfl, by decide +kernel, rfl, by decide +kernel, by decide +kernel⟩
abbrev s_number_fits : Stmt := top 21
theorem sc_number_fits : FnScope ["letter", "number", "many"] ["letter", "number", "many"] (defScope s_number_fits) := ⟨rfl, rfl, rfl, by decide +kernel, rfl, by decide +kernel, by decide +kernel⟩
abbrev s_row_fits : Stmt := top 22
theorem sc_row_fits : FnScope ["row", "many", "letters", "letter", "number"] ["row", "many"] (defScope s_row_fits) := ⟨rfl, rfl, rfl, by decide +kernel, rfl, by decide +kernel, by decide +kernel⟩
abbrev s_word_fits : Stmt := top 23
theorem sc_word_fits : FnScope ["word", "base", "many", "ring", "segment", "place"] ["word", "base", "many"] (defScope s_word_fits) := ⟨rfl, rfl, rfl, by decide +kernel, rfl, by decide +kernel, by decide +kernel⟩
abbrev s_brackets_fit : Stmt := top 24
theorem sc_brackets_fit : FnScope ["brackets", "r1", "r2", "r3", "ring"] ["brackets"] (defScope s_brackets_fit) := ⟨rfl, rfl, rfl, by decide +kernel, rfl, by decide +kernel, by decide +kernel⟩
abbrev s_segment_fits : Stmt := top 25
theorem sc_segment_fits : FnScope ["segment", "base", "many", "brackets", "rights", "gates", "words", "rows", "word", "row"] ["segment", "base", "many"] (defScope s_segment_fits) := ⟨rfl, rfl, rfl, by decide +kernel, rfl, by decide +kernel, by decide +kernel⟩
abbrev s_Machine__init : Stmt := inClass (top 28) 0
theorem sc_Machine__init : FnScope ["self", "segments", "base", "many", "number", "segment"] ["self", "segments", "base"] (defScope s_Machine__init) := ⟨rfl, rfl, rfl, by decide +kernel, rfl, by decide +kernel, by decide +kernel⟩
abbrev s_Machine_segment : Stmt := inClass (top 28) 1
theorem sc_Machine_segment : FnScope ["self", "number"] ["self", "number"] (defScope s_Machine_segment) := ⟨rfl, rfl, rfl, by decide +kernel, rfl, by decide +kernel, by decide +kernel⟩
abbrev s_Machine__len : Stmt := inClass (top 28) 2
theorem sc_Machine__len : FnScope ["self"] ["self"] (defScope s_Machine__len) := ⟨rfl, rfl, rfl, by decide +kernel, rfl, by decide +kernel, by decide +kernel⟩
abbrev s_may_read : Stmt := top 29
theorem sc_may_read : FnScope ["segment", "ring", "brackets", "rights"] ["segment", "ring"] (defScope s_may_read) := ⟨rfl, rfl, rfl, by decide +kernel, rfl, by decide +kernel, by decide +kernel⟩
abbrev s_may_write : Stmt := top 30
theorem sc_may_write : FnScope ["segment", "ring", "brackets", "rights"] ["segment", "ring"] (defScope s_may_write) := ⟨rfl, rfl, rfl, by decide +kernel, rfl, by decide +kernel, by decide +kernel⟩
abbrev s_Fault__init : Stmt := inClass (top 33) 0
theorem sc_Fault__init : FnScope ["self", "cause"] ["self", "cause"] (defScope s_Fault__init) := ⟨rfl, rfl, rfl, by decide +kernel, rfl, by decide +kernel, by decide +kernel⟩
abbrev s_Run__init : Stmt := inClass (top 34) 0
theorem sc_Run__init : FnScope ["self", "machine", "stand", "ring", "a", "pointers", "memory", "words"] ["self", "machine", "stand"] (defScope s_Run__init) := ⟨rfl, rfl, rfl, by decide +kernel, rfl, by decide +kernel, by decide +kernel⟩
abbrev s_Run_stand_now : Stmt := inClass (top 34) 1
theorem sc_Run_stand_now : FnScope ["self", "memory", "words"] ["self"] (defScope s_Run_stand_now) := ⟨rfl, rfl, rfl, by decide +kernel, rfl, by decide +kernel, by decide +kernel⟩
abbrev s_Run_forget : Stmt := inClass (top 34) 2
theorem sc_Run_forget : FnScope ["self"] ["self"] (defScope s_Run_forget) := ⟨rfl, rfl, rfl, by decide +kernel, rfl, by decide +kernel, by decide +kernel⟩
abbrev s_Run_pointer : Stmt := inClass (top 34) 3
theorem sc_Run_pointer : FnScope ["self", "p"] ["self", "p"] (defScope s_Run_pointer) := ⟨rfl, rfl, rfl, by decide +kernel, rfl, by decide +kernel, by decide +kernel⟩
abbrev s_Run_spot : Stmt := inClass (top 34) 4
theorem sc_Run_spot : FnScope ["self", "p", "w", "ring", "number", "place"] ["self", "p", "w"] (defScope s_Run_spot) := ⟨rfl, rfl, rfl, by decide +kernel, rfl, by decide +kernel, by decide +kernel⟩
abbrev s_Run_read : Stmt := inClass (top 34) 5
theorem sc_Run_read : FnScope ["self", "p", "w", "e", "number", "place"] ["self", "p", "w"] (defScope s_Run_read) := ⟨rfl, rfl, rfl, by decide +kernel, rfl, by decide +kernel, by decide +kernel⟩
abbrev s_Run_write : Stmt := inClass (top 34) 6
theorem sc_Run_write : FnScope ["self", "p", "w", "word", "e", "number", "place"] ["self", "p", "w", "word"] (defScope s_Run_write) := ⟨rfl, rfl, rfl, by decide +kernel, rfl, by decide +kernel, by decide +kernel⟩
abbrev s_Run_jump : Stmt := inClass (top 34) 7
theorem sc_Run_jump : FnScope ["self", "j", "number", "place"] ["self", "j"] (defScope s_Run_jump) := ⟨rfl, rfl, rfl, by decide +kernel, rfl, by decide +kernel, by decide +kernel⟩
abbrev s_Run_enter : Stmt := inClass (top 34) 8
theorem sc_Run_enter : FnScope ["self", "ring", "where", "pointer"] ["self", "ring", "where"] (defScope s_Run_enter) := ⟨rfl, rfl, rfl, by decide +kernel, rfl, by decide +kernel, by decide +kernel⟩
abbrev s_Run_next_row : Stmt := inClass (top 34) 9
theorem sc_Run_next_row : FnScope ["self", "number", "place", "rows"] ["self"] (defScope s_Run_next_row) := ⟨rfl, rfl, rfl, by decide +kernel, rfl, by decide +kernel, by decide +kernel⟩
abbrev s_Run_not_the_hand : Stmt := inClass (top 34) 10
theorem sc_Run_not_the_hand : FnScope ["self"] ["self"] (defScope s_Run_not_the_hand) := ⟨rfl, rfl, rfl, by decide +kernel, rfl, by decide +kernel, by decide +kernel⟩
abbrev s_raised : Stmt := top 35
theorem sc_raised : FnScope ["pointer", "ring", "own", "number", "place"] ["pointer", "ring"] (defScope s_raised) := ⟨rfl, rfl, rfl, by decide +kernel, rfl, by decide +kernel, by decide +kernel⟩
abbrev s_entered : Stmt := top 36
theorem sc_entered : FnScope ["segment", "place", "e", "r1", "r2", "r3", "rights", "gates", "words", "rows"] ["segment", "place", "e"] (defScope s_entered) := ⟨rfl, rfl, rfl, by decide +kernel, rfl, by decide +kernel, by decide +kernel⟩
abbrev s_do_set : Stmt := top 37
theorem sc_do_set : FnScope ["run", "n"] ["run", "n"] (defScope s_do_set) := ⟨rfl, rfl, rfl, by decide +kernel, rfl, by decide +kernel, by decide +kernel⟩
abbrev s_do_add : Stmt := top 38
theorem sc_do_add : FnScope ["run", "n"] ["run", "n"] (defScope s_do_add) := ⟨rfl, rfl, rfl, by decide +kernel, rfl, by decide +kernel, by decide +kernel⟩
abbrev s_do_load : Stmt := top 39
theorem sc_do_load : FnScope ["run", "p", "w", "word", "e", "number"] ["run", "p", "w"] (defScope s_do_load) := ⟨rfl, rfl, rfl, by decide +kernel, rfl, by decide +kernel, by decide +kernel⟩
abbrev s_do_store : Stmt := top 40
theorem sc_do_store : FnScope ["run", "p", "w"] ["run", "p", "w"] (defScope s_do_store) := ⟨rfl, rfl, rfl, by decide +kernel, rfl, by decide +kernel, by decide +kernel⟩
abbrev s_do_fetch : Stmt := top 41
theorem sc_do_fetch : FnScope ["run", "q", "p", "w", "word", "e", "number", "kind", "ring", "target", "place", "r1"] ["run", "q", "p", "w"] (defScope s_do_fetch) := ⟨rfl, rfl, rfl, by decide +kernel, rfl, by decide +kernel, by decide +kernel⟩
abbrev s_do_keep : Stmt := top 42
theorem sc_do_keep : FnScope ["run", "q", "p", "w"] ["run", "q", "p", "w"] (defScope s_do_keep) := ⟨rfl, rfl, rfl, by decide +kernel, rfl, by decide +kernel, by decide +kernel⟩
abbrev s_do_aim : Stmt := top 43
theorem sc_do_aim : FnScope ["run", "q", "s", "w"] ["run", "q", "s", "w"] (defScope s_do_aim) := ⟨rfl, rfl, rfl, by decide +kernel, rfl, by decide +kernel, by decide +kernel⟩
abbrev s_do_move : Stmt := top 44
theorem sc_do_move : FnScope ["run", "q", "p", "n", "ring", "number", "place"] ["run", "q", "p", "n"] (defScope s_do_move) := ⟨rfl, rfl, rfl, by decide +kernel, rfl, by decide +kernel, by decide +kernel⟩
abbrev s_do_zero : Stmt := top 45
theorem sc_do_zero : FnScope ["run", "j"] ["run", "j"] (defScope s_do_zero) := ⟨rfl, rfl, rfl, by decide +kernel, rfl, by decide +kernel, by decide +kernel⟩
abbrev s_do_go : Stmt := top 46
theorem sc_do_go : FnScope ["run", "j"] ["run", "j"] (defScope s_do_go) := ⟨rfl, rfl, rfl, by decide +kernel, rfl, by decide +kernel, by decide +kernel⟩
abbrev s_do_call : Stmt := top 47
theorem sc_do_call : FnScope ["run", "p", "ring", "number", "place", "new_ring"] ["run", "p"] (defScope s_do_call) := ⟨rfl, rfl, rfl, by decide +kernel, rfl, by decide +kernel, by decide +kernel⟩
abbrev s_do_return : Stmt := top 48
theorem sc_do_return : FnScope ["run", "ring", "where"] ["run"] (defScope s_do_return) := ⟨rfl, rfl, rfl, by decide +kernel, rfl, by decide +kernel, by decide +kernel⟩
abbrev s_act : Stmt := top 50
theorem sc_act : FnScope ["run", "row", "action", "numbers"] ["run", "row"] (defScope s_act) := ⟨rfl, rfl, rfl, by decide +kernel, rfl, by decide +kernel, by decide +kernel⟩
abbrev s_act_on : Stmt := top 51
theorem sc_act_on : FnScope ["run", "most", "ran", "row", "number", "place"] ["run", "most"] (defScope s_act_on) := ⟨rfl, rfl, rfl, by decide +kernel, rfl, by decide +kernel, by decide +kernel⟩
abbrev s_do_deed : Stmt := top 52
theorem sc_do_deed : FnScope ["run", "deed", "most", "fault"] ["run", "deed", "most"] (defScope s_do_deed) := ⟨rfl, rfl, rfl, by decide +kernel, rfl, by decide +kernel, by decide +kernel⟩
abbrev s_first : Stmt := top 55
theorem sc_first : FnScope ["machine", "ring", "memory", "brackets", "rights", "gates", "words", "rows"] ["machine", "ring"] (defScope s_first) := ⟨rfl, rfl, rfl, by decide +kernel, rfl, by decide +kernel, by decide +kernel⟩
abbrev s_refuse_faulty : Stmt := top 56
theorem sc_refuse_faulty : FnScope ["machine", "deeds", "deed"] ["machine", "deeds"] (defScope s_refuse_faulty) := ⟨rfl, rfl, rfl, by decide +kernel, rfl, by decide +kernel, by decide +kernel⟩
abbrev s_done : Stmt := top 57
theorem sc_done : FnScope ["machine", "stand", "deed", "most", "run", "told"] ["machine", "stand", "deed", "most"] (defScope s_done) := ⟨rfl, rfl, rfl, by decide +kernel, rfl, by decide +kernel, by decide +kernel⟩
abbrev s_Finds__init : Stmt := inClass (top 59) 0
theorem sc_Finds__init : FnScope ["self", "start", "limit"] ["self", "start", "limit"] (defScope s_Finds__init) := ⟨rfl, rfl, rfl, by decide +kernel, rfl, by decide +kernel, by decide +kernel⟩
abbrev s_Finds_more : Stmt := inClass (top 59) 1
theorem sc_Finds_more : FnScope ["self"] ["self"] (defScope s_Finds_more) := ⟨rfl, rfl, rfl, by decide +kernel, rfl, by decide +kernel, by decide +kernel⟩
abbrev s_Finds_take : Stmt := inClass (top 59) 2
theorem sc_Finds_take : FnScope ["self", "thing"] ["self"] (defScope s_Finds_take) := ⟨rfl, rfl, rfl, by decide +kernel, rfl, by decide +kernel, by decide +kernel⟩
abbrev s_Finds_put : Stmt := inClass (top 59) 3
theorem sc_Finds_put : FnScope ["self", "thing", "way"] ["self", "thing", "way"] (defScope s_Finds_put) := ⟨rfl, rfl, rfl, by decide +kernel, rfl, by decide +kernel, by decide +kernel⟩
abbrev s_stands : Stmt := top 62
theorem sc_stands : FnScope ["machine", "stand", "menu", "limit", "found", "numbers"] ["machine", "stand", "menu", "limit"] (defScope s_stands) := ⟨rfl, rfl, rfl, by decide +kernel, rfl, by decide +kernel, by decide +kernel⟩
abbrev s_way : Stmt := top 63
theorem sc_way : FnScope ["machine", "stand", "menu", "wish", "limit", "found", "numbers"] ["machine", "stand", "menu", "wish", "limit"] (defScope s_way) := ⟨rfl, rfl, rfl, by decide +kernel, rfl, by decide +kernel, by decide +kernel⟩
abbrev s_paper : Stmt := top 64
theorem sc_paper : FnScope ["machine", "stand", "menu", "wish", "limit", "found", "numbers"] ["machine", "stand", "menu", "wish", "limit"] (defScope s_paper) := ⟨rfl, rfl, rfl, by decide +kernel, rfl, by decide +kernel, by decide +kernel⟩
abbrev s_paper_holds : Stmt := top 65
theorem sc_paper_holds : FnScope ["machine", "stand", "menu", "wish", "paper", "listed", "each", "deed"] ["machine", "stand", "menu", "wish", "paper"] (defScope s_paper_holds) := ⟨rfl, rfl, rfl, by decide +kernel, rfl, by decide +kernel, by decide +kernel⟩
abbrev s_refuse_wish : Stmt := top 66
theorem sc_refuse_wish : FnScope ["machine", "wish", "number", "place", "word"] ["machine", "wish"] (defScope s_refuse_wish) := ⟨rfl, rfl, rfl, by decide +kernel, rfl, by decide +kernel, by decide +kernel⟩
abbrev s_wish_holds : Stmt := top 67
theorem sc_wish_holds : FnScope ["wish", "stand", "number", "place", "word"] ["wish", "stand"] (defScope s_wish_holds) := ⟨rfl, rfl, rfl, by decide +kernel, rfl, by decide +kernel, by decide +kernel⟩
abbrev s_search : Stmt := top 68
theorem sc_search : FnScope ["machine", "stand", "menu", "wish", "limit", "finds", "here", "numbers", "number", "deed", "there", "told"] ["machine", "stand", "menu", "wish", "limit"] (defScope s_search) := ⟨rfl, rfl, rfl, by decide +kernel, rfl, by decide +kernel, by decide +kernel⟩
abbrev s_seen : Stmt := top 70
theorem sc_seen : FnScope ["machine", "stand", "ring", "a", "pointers", "memory", "words", "segment", "part"] ["machine", "stand"] (defScope s_seen) := ⟨rfl, rfl, rfl, by decide +kernel, rfl, by decide +kernel, by decide +kernel⟩
abbrev s_parting : Stmt := top 71
theorem sc_parting : FnScope ["one", "other", "stand", "other_stand", "menu", "limit", "pairs", "numbers"] ["one", "other", "stand", "other_stand", "menu", "limit"] (defScope s_parting) := ⟨rfl, rfl, rfl, by decide +kernel, rfl, by decide +kernel, by decide +kernel⟩
abbrev s_alike : Stmt := top 72
theorem sc_alike : FnScope ["one", "other", "stand", "other_stand", "menu", "limit", "pairs", "numbers"] ["one", "other", "stand", "other_stand", "menu", "limit"] (defScope s_alike) := ⟨rfl, rfl, rfl, by decide +kernel, rfl, by decide +kernel, by decide +kernel⟩
abbrev s_alike_holds : Stmt := top 73
theorem sc_alike_holds : FnScope ["one", "other", "stand", "other_stand", "menu", "pairs", "listed", "pair", "left", "right", "deed"] ["one", "other", "stand", "other_stand", "menu", "pairs"] (defScope s_alike_holds) := ⟨rfl, rfl, rfl, by decide +kernel, rfl, by decide +kernel, by decide +kernel⟩
abbrev s_frame : Stmt := top 74
theorem sc_frame : FnScope ["machine", "parts", "brackets", "rights", "gates", "words", "rows"] ["machine"] (defScope s_frame) := ⟨rfl, rfl, rfl, by decide +kernel, rfl, by decide +kernel, by decide +kernel⟩
abbrev s_refuse_pair : Stmt := top 75
theorem sc_refuse_pair : FnScope ["one", "other", "stand", "other_stand", "menu"] ["one", "other", "stand", "other_stand", "menu"] (defScope s_refuse_pair) := ⟨rfl, rfl, rfl, by decide +kernel, rfl, by decide +kernel, by decide +kernel⟩
abbrev s_seen_alike : Stmt := top 76
theorem sc_seen_alike : FnScope ["one", "other", "pair", "stand", "other_stand"] ["one", "other", "pair"] (defScope s_seen_alike) := ⟨rfl, rfl, rfl, by decide +kernel, rfl, by decide +kernel, by decide +kernel⟩
abbrev s_pair_behind : Stmt := top 77
theorem sc_pair_behind : FnScope ["one", "other", "pair", "deed", "stand", "told", "other_stand", "other_told", "behind"] ["one", "other", "pair", "deed"] (defScope s_pair_behind) := ⟨rfl, rfl, rfl, by decide +kernel, rfl, by decide +kernel, by decide +kernel⟩
abbrev s_search_pairs : Stmt := top 78
theorem sc_search_pairs : FnScope ["one", "other", "pair", "menu", "limit", "finds", "here", "numbers", "number", "deed", "there"] ["one", "other", "pair", "menu", "limit"] (defScope s_search_pairs) := ⟨rfl, rfl, rfl, by decide +kernel, rfl, by decide +kernel, by decide +kernel⟩
abbrev s_law_bag : Stmt := top 80
theorem sc_law_bag : FnScope ["script", "great", "fold", "cell"] ["script"] (defScope s_law_bag) := ⟨rfl, rfl, rfl, by decide +kernel, rfl, by decide +kernel, by decide +kernel⟩
abbrev s_law_draw : Stmt := top 81
theorem sc_law_draw : FnScope ["bag", "many", "great", "one", "mixed"] ["bag", "many"] (defScope s_law_draw) := ⟨rfl, rfl, rfl, by decide +kernel, rfl, by decide +kernel, by decide +kernel⟩
abbrev s_law_free : Stmt := top 82
theorem sc_law_free : FnScope ["kind", "scene", "seat", "target"] ["kind", "scene", "seat", "target"] (defScope s_law_free) := ⟨rfl, rfl, rfl, by decide +kernel, rfl, by decide +kernel, by decide +kernel⟩
abbrev s_law_bound : Stmt := top 83
theorem sc_law_bound : FnScope ["kind", "scene", "seat", "target", "most"] ["kind", "scene", "seat", "target", "most"] (defScope s_law_bound) := ⟨rfl, rfl, rfl, by decide +kernel, rfl, by decide +kernel, by decide +kernel⟩
abbrev s_law_held : Stmt := top 84
theorem sc_law_held : FnScope ["bag", "scene", "seat", "target", "rows", "twins", "out"] ["bag", "scene", "seat", "target"] (defScope s_law_held) := ⟨rfl, rfl, rfl, by decide +kernel, rfl, by decide +kernel, by decide +kernel⟩
abbrev s_law_told : Stmt := top 85
theorem sc_law_told : FnScope ["kind", "scene", "seat", "target", "most", "e"] ["kind", "scene", "seat", "target", "most"] (defScope s_law_told) := ⟨rfl, rfl, rfl, by decide +kernel, rfl, by decide +kernel, by decide +kernel⟩
abbrev s_law : Stmt := top 86
theorem sc_law : FnScope ["script", "bag", "size", "scene", "seat", "some", "kind", "most", "bound", "due"] ["script"] (defScope s_law) := ⟨rfl, rfl, rfl, by decide +kernel, rfl, by decide +kernel, by decide +kernel⟩
end Rg
namespace Rg
open PySem PySem.Spec L2
abbrev hd_is_whole : He.DefD := ⟨("is_whole", none), "is_whole", "is_whole", defArgs s_is_whole, defBody s_is_whole, defScope s_is_whole, [], []⟩
abbrev hd_is_below : He.DefD := ⟨("is_below", none), "is_below", "is_below", defArgs s_is_below, defBody s_is_below, defScope s_is_below, [], []⟩
abbrev hd_is_ring : He.DefD := ⟨("is_ring", none), "is_ring", "is_ring", defArgs s_is_ring, defBody s_is_ring, defScope s_is_ring, [], []⟩
abbrev hd_number_fits : He.DefD := ⟨("number_fits", none), "number_fits", "number_fits", defArgs s_number_fits, defBody s_number_fits, defScope s_number_fits, [], []⟩
abbrev hd_row_fits : He.DefD := ⟨("row_fits", none), "row_fits", "row_fits", defArgs s_row_fits, defBody s_row_fits, defScope s_row_fits, [], []⟩
abbrev hd_word_fits : He.DefD := ⟨("word_fits", none), "word_fits", "word_fits", defArgs s_word_fits, defBody s_word_fits, defScope s_word_fits, [], []⟩
abbrev hd_brackets_fit : He.DefD := ⟨("brackets_fit", none), "brackets_fit", "brackets_fit", defArgs s_brackets_fit, defBody s_brackets_fit, defScope s_brackets_fit, [], []⟩
abbrev hd_segment_fits : He.DefD := ⟨("segment_fits", none), "segment_fits", "segment_fits", defArgs s_segment_fits, defBody s_segment_fits, defScope s_segment_fits, [], []⟩
abbrev hd_may_read : He.DefD := ⟨("may_read", none), "may_read", "may_read", defArgs s_may_read, defBody s_may_read, defScope s_may_read, [], []⟩
abbrev hd_may_write : He.DefD := ⟨("may_write", none), "may_write", "may_write", defArgs s_may_write, defBody s_may_write, defScope s_may_write, [], []⟩
abbrev hd_raised : He.DefD := ⟨("raised", none), "raised", "raised", defArgs s_raised, defBody s_raised, defScope s_raised, [], []⟩
abbrev hd_entered : He.DefD := ⟨("entered", none), "entered", "entered", defArgs s_entered, defBody s_entered, defScope s_entered, [], []⟩
abbrev hd_do_set : He.DefD := ⟨("do_set", none), "do_set", "do_set", defArgs s_do_set, defBody s_do_set, defScope s_do_set, [], []⟩
abbrev hd_do_add : He.DefD := ⟨("do_add", none), "do_add", "do_add", defArgs s_do_add, defBody s_do_add, defScope s_do_add, [], []⟩
abbrev hd_do_load : He.DefD := ⟨("do_load", none), "do_load", "do_load", defArgs s_do_load, defBody s_do_load, defScope s_do_load, [], []⟩
abbrev hd_do_store : He.DefD := ⟨("do_store", none), "do_store", "do_store", defArgs s_do_store, defBody s_do_store, defScope s_do_store, [], []⟩
abbrev hd_do_fetch : He.DefD := ⟨("do_fetch", none), "do_fetch", "do_fetch", defArgs s_do_fetch, defBody s_do_fetch, defScope s_do_fetch, [], []⟩
abbrev hd_do_keep : He.DefD := ⟨("do_keep", none), "do_keep", "do_keep", defArgs s_do_keep, defBody s_do_keep, defScope s_do_keep, [], []⟩
abbrev hd_do_aim : He.DefD := ⟨("do_aim", none), "do_aim", "do_aim", defArgs s_do_aim, defBody s_do_aim, defScope s_do_aim, [], []⟩
abbrev hd_do_move : He.DefD := ⟨("do_move", none), "do_move", "do_move", defArgs s_do_move, defBody s_do_move, defScope s_do_move, [], []⟩
abbrev hd_do_zero : He.DefD := ⟨("do_zero", none), "do_zero", "do_zero", defArgs s_do_zero, defBody s_do_zero, defScope s_do_zero, [], []⟩
abbrev hd_do_go : He.DefD := ⟨("do_go", none), "do_go", "do_go", defArgs s_do_go, defBody s_do_go, defScope s_do_go, [], []⟩
abbrev hd_do_call : He.DefD := ⟨("do_call", none), "do_call", "do_call", defArgs s_do_call, defBody s_do_call, defScope s_do_call, [], []⟩
abbrev hd_do_return : He.DefD := ⟨("do_return", none), "do_return", "do_return", defArgs s_do_return, defBody s_do_return, defScope s_do_return, [], []⟩
abbrev hd_act : He.DefD := ⟨("act", none), "act", "act", defArgs s_act, defBody s_act, defScope s_act, [], []⟩
abbrev hd_act_on : He.DefD := ⟨("act_on", none), "act_on", "act_on", defArgs s_act_on, defBody s_act_on, defScope s_act_on, [], []⟩
abbrev hd_do_deed : He.DefD := ⟨("do_deed", none), "do_deed", "do_deed", defArgs s_do_deed, defBody s_do_deed, defScope s_do_deed, [], []⟩
abbrev hd_refuse_faulty : He.DefD := ⟨("refuse_faulty", none), "refuse_faulty", "refuse_faulty", defArgs s_refuse_faulty, defBody s_refuse_faulty, defScope s_refuse_faulty, [], []⟩
abbrev hd_first : He.DefD := ⟨("first", none), "first", "first", defArgs s_first, defBody s_first, defScope s_first, [], []⟩
abbrev hd_seen : He.DefD := ⟨("seen", none), "seen", "seen", defArgs s_seen, defBody s_seen, defScope s_seen, [], []⟩
abbrev hd_frame : He.DefD := ⟨("frame", none), "frame", "frame", defArgs s_frame, defBody s_frame, defScope s_frame, [], []⟩
abbrev hd_refuse_pair : He.DefD := ⟨("refuse_pair", none), "refuse_pair", "refuse_pair", defArgs s_refuse_pair, defBody s_refuse_pair, defScope s_refuse_pair, [], []⟩
abbrev hd_seen_alike : He.DefD := ⟨("seen_alike", none), "seen_alike", "seen_alike", defArgs s_seen_alike, defBody s_seen_alike, defScope s_seen_alike, [], []⟩
abbrev hd_pair_behind : He.DefD := ⟨("pair_behind", none), "pair_behind", "pair_behind", defArgs s_pair_behind, defBody s_pair_behind, defScope s_pair_behind, [], []⟩
abbrev hd_search_pairs : He.DefD := ⟨("search_pairs", none), "search_pairs", "search_pairs", defArgs s_search_pairs, defBody s_search_pairs, defScope s_search_pairs, [], []⟩
abbrev hd_wish_holds : He.DefD := ⟨("wish_holds", none), "wish_holds", "wish_holds", defArgs s_wish_holds, defBody s_wish_holds, defScope s_wish_holds, [], []⟩
abbrev hd_refuse_wish : He.DefD := ⟨("refuse_wish", none), "refuse_wish", "refuse_wish", defArgs s_refuse_wish, defBody s_refuse_wish, defScope s_refuse_wish, [], []⟩
abbrev hd_paper_holds : He.DefD := ⟨("paper_holds", none), "paper_holds", "paper_holds", defArgs s_paper_holds, defBody s_paper_holds, defScope s_paper_holds, [], []⟩
abbrev hd_search : He.DefD := ⟨("search", none), "search", "search", defArgs s_search, defBody s_search, defScope s_search, [], []⟩
abbrev hd_alike_holds : He.DefD := ⟨("alike_holds", none), "alike_holds", "alike_holds", defArgs s_alike_holds, defBody s_alike_holds, defScope s_alike_holds, [], []⟩
abbrev hd_law_bag : He.DefD := ⟨("_law_bag", none), "_law_bag", "_law_bag", defArgs s_law_bag, defBody s_law_bag, defScope s_law_bag, [], []⟩
abbrev hd_law_draw : He.DefD := ⟨("_law_draw", none), "_law_draw", "_law_draw", defArgs s_law_draw, defBody s_law_draw, defScope s_law_draw, [], []⟩
abbrev hd_law_free : He.DefD := ⟨("_law_free", none), "_law_free", "_law_free", defArgs s_law_free, defBody s_law_free, defScope s_law_free, [], []⟩
abbrev hd_law_bound : He.DefD := ⟨("_law_bound", none), "_law_bound", "_law_bound", defArgs s_law_bound, defBody s_law_bound, defScope s_law_bound, [], []⟩
abbrev hd_law_held : He.DefD := ⟨("_law_held", none), "_law_held", "_law_held", defArgs s_law_held, defBody s_law_held, defScope s_law_held, [], []⟩
abbrev hd_law_told : He.DefD := ⟨("_law_told", none), "_law_told", "_law_told", defArgs s_law_told, defBody s_law_told, defScope s_law_told, [], []⟩
abbrev hd_law : He.DefD := ⟨("law", none), "law", "law", defArgs s_law, defBody s_law, defScope s_law, [], []⟩
abbrev hd_Machine_segment : He.DefD := ⟨("Machine", some "segment"), "segment", "Machine.segment", defArgs s_Machine_segment, defBody s_Machine_segment, defScope s_Machine_segment, [], []⟩
abbrev hd_Machine__len : He.DefD := ⟨("Machine", some "__len__"), "__len__", "Machine.__len__", defArgs s_Machine__len, defBody s_Machine__len, defScope s_Machine__len, [], []⟩
abbrev hd_Machine__init : He.DefD := ⟨("Machine", some "__init__"), "__init__", "Machine.__init__", defArgs s_Machine__init, defBody s_Machine__init, defScope s_Machine__init, [], [("base", .int 16)]⟩
abbrev hd_Fault__init : He.DefD := ⟨("Fault", some "__init__"), "__init__", "Fault.__init__", defArgs s_Fault__init, defBody s_Fault__init, defScope s_Fault__init, [], []⟩
abbrev hd_Run__init : He.DefD := ⟨("Run", some "__init__"), "__init__", "Run.__init__", defArgs s_Run__init, defBody s_Run__init, defScope s_Run__init, [], []⟩
abbrev hd_Run_pointer : He.DefD := ⟨("Run", some "pointer"), "pointer", "Run.pointer", defArgs s_Run_pointer, defBody s_Run_pointer, defScope s_Run_pointer, [], []⟩
abbrev hd_Run_spot : He.DefD := ⟨("Run", some "spot"), "spot", "Run.spot", defArgs s_Run_spot, defBody s_Run_spot, defScope s_Run_spot, [], []⟩
abbrev hd_Run_read : He.DefD := ⟨("Run", some "read"), "read", "Run.read", defArgs s_Run_read, defBody s_Run_read, defScope s_Run_read, [], []⟩
abbrev hd_Run_write : He.DefD := ⟨("Run", some "write"), "write", "Run.write", defArgs s_Run_write, defBody s_Run_write, defScope s_Run_write, [], []⟩
abbrev hd_Run_jump : He.DefD := ⟨("Run", some "jump"), "jump", "Run.jump", defArgs s_Run_jump, defBody s_Run_jump, defScope s_Run_jump, [], []⟩
abbrev hd_Run_enter : He.DefD := ⟨("Run", some "enter"), "enter", "Run.enter", defArgs s_Run_enter, defBody s_Run_enter, defScope s_Run_enter, [], []⟩
abbrev hd_Run_next_row : He.DefD := ⟨("Run", some "next_row"), "next_row", "Run.next_row", defArgs s_Run_next_row, defBody s_Run_next_row, defScope s_Run_next_row, [], []⟩
abbrev hd_Run_not_the_hand : He.DefD := ⟨("Run", some "not_the_hand"), "not_the_hand", "Run.not_the_hand", defArgs s_Run_not_the_hand, defBody s_Run_not_the_hand, defScope s_Run_not_the_hand, [], []⟩
abbrev hd_Run_forget : He.DefD := ⟨("Run", some "forget"), "forget", "Run.forget", defArgs s_Run_forget, defBody s_Run_forget, defScope s_Run_forget, [], []⟩
abbrev hd_Run_stand_now : He.DefD := ⟨("Run", some "stand_now"), "stand_now", "Run.stand_now", defArgs s_Run_stand_now, defBody s_Run_stand_now, defScope s_Run_stand_now, [], []⟩
abbrev hd_done : He.DefD := ⟨("done", none), "done", "done", defArgs s_done, defBody s_done, defScope s_done, [], [("most", .int 100)]⟩
abbrev hd_stands : He.DefD := ⟨("stands", none), "stands", "stands", defArgs s_stands, defBody s_stands, defScope s_stands, [], [("limit", .int 400)]⟩
abbrev hd_way : He.DefD := ⟨("way", none), "way", "way", defArgs s_way, defBody s_way, defScope s_way, [], [("limit", .int 400)]⟩
abbrev hd_paper : He.DefD := ⟨("paper", none), "paper", "paper", defArgs s_paper, defBody s_paper, defScope s_paper, [], [("limit", .int 400)]⟩
abbrev hd_parting : He.DefD := ⟨("parting", none), "parting", "parting", defArgs s_parting, defBody s_parting, defScope s_parting, [], [("limit", .int 400)]⟩
abbrev hd_alike : He.DefD := ⟨("alike", none), "alike", "alike", defArgs s_alike, defBody s_alike, defScope s_alike, [], [("limit", .int 400)]⟩
abbrev hd_Finds__init : He.DefD := ⟨("Finds", some "__init__"), "__init__", "Finds.__init__", defArgs s_Finds__init, defBody s_Finds__init, defScope s_Finds__init, [], []⟩
abbrev hd_Finds_more : He.DefD := ⟨("Finds", some "more"), "more", "Finds.more", defArgs s_Finds_more, defBody s_Finds_more, defScope s_Finds_more, [], []⟩
abbrev hd_Finds_take : He.DefD := ⟨("Finds", some "take"), "take", "Finds.take", defArgs s_Finds_take, defBody s_Finds_take, defScope s_Finds_take, [], []⟩
abbrev hd_Finds_put : He.DefD := ⟨("Finds", some "put"), "put", "Finds.put", defArgs s_Finds_put, defBody s_Finds_put, defScope s_Finds_put, [], []⟩
abbrev hd_RingError__init : He.DefD := ⟨("RingError", some "__init__"), "__init__", "RingError.__init__", defArgs s_RingError__init, defBody s_RingError__init, defScope s_RingError__init, [], []⟩
abbrev hd_TooMany__init : He.DefD := ⟨("TooMany", some "__init__"), "__init__", "TooMany.__init__", defArgs s_TooMany__init, defBody s_TooMany__init, defScope s_TooMany__init, [], []⟩
def hexl0 : List (PySem.W.Frag → Bool) := [fun K => decide (PySem.W.nsIn K mainGlobals "is_whole" = some (some (.ref (He.ga K "is_whole")))),
  fun K => decide (PySem.W.nsIn K mainGlobals "is_below" = some (some (.ref (He.ga K "is_below")))),
  fun K => decide (PySem.W.nsIn K mainGlobals "is_ring" = some (some (.ref (He.ga K "is_ring")))),
  fun K => decide (PySem.W.nsIn K mainGlobals "number_fits" = some (some (.ref (He.ga K "number_fits")))),
  fun K => decide (PySem.W.nsIn K mainGlobals "row_fits" = some (some (.ref (He.ga K "row_fits")))),
  fun K => decide (PySem.W.nsIn K mainGlobals "word_fits" = some (some (.ref (He.ga K "word_fits")))),
  fun K => decide (PySem.W.nsIn K mainGlobals "brackets_fit" = some (some (.ref (He.ga K "brackets_fit")))),
  fun K => decide (PySem.W.nsIn K mainGlobals "segment_fits" = some (some (.ref (He.ga K "segment_fits")))),
  fun K => decide (PySem.W.nsIn K mainGlobals "may_read" = some (some (.ref (He.ga K "may_read")))),
  fun K => decide (PySem.W.nsIn K mainGlobals "may_write" = some (some (.ref (He.ga K "may_write")))),
  fun K => decide (PySem.W.nsIn K mainGlobals "raised" = some (some (.ref (He.ga K "raised")))),
  fun K => decide (PySem.W.nsIn K mainGlobals "entered" = some (some (.ref (He.ga K "entered")))),
  fun K => decide (PySem.W.nsIn K mainGlobals "do_set" = some (some (.ref (He.ga K "do_set")))),
  fun K => decide (PySem.W.nsIn K mainGlobals "do_add" = some (some (.ref (He.ga K "do_add")))),
  fun K => decide (PySem.W.nsIn K mainGlobals "do_load" = some (some (.ref (He.ga K "do_load")))),
  fun K => decide (PySem.W.nsIn K mainGlobals "do_store" = some (some (.ref (He.ga K "do_store")))),
  fun K => decide (PySem.W.nsIn K mainGlobals "do_fetch" = some (some (.ref (He.ga K "do_fetch")))),
  fun K => decide (PySem.W.nsIn K mainGlobals "do_keep" = some (some (.ref (He.ga K "do_keep")))),
  fun K => decide (PySem.W.nsIn K mainGlobals "do_aim" = some (some (.ref (He.ga K "do_aim")))),
  fun K => decide (PySem.W.nsIn K mainGlobals "do_move" = some (some (.ref (He.ga K "do_move")))),
  fun K => decide (PySem.W.nsIn K mainGlobals "do_zero" = some (some (.ref (He.ga K "do_zero")))),
  fun K => decide (PySem.W.nsIn K mainGlobals "do_go" = some (some (.ref (He.ga K "do_go")))),
  fun K => decide (PySem.W.nsIn K mainGlobals "do_call" = some (some (.ref (He.ga K "do_call")))),
  fun K => decide (PySem.W.nsIn K mainGlobals "do_return" = some (some (.ref (He.ga K "do_return")))),
  fun K => decide (PySem.W.nsIn K mainGlobals "act" = some (some (.ref (He.ga K "act")))),
  fun K => decide (PySem.W.nsIn K mainGlobals "act_on" = some (some (.ref (He.ga K "act_on")))),
  fun K => decide (PySem.W.nsIn K mainGlobals "do_deed" = some (some (.ref (He.ga K "do_deed")))),
  fun K => decide (PySem.W.nsIn K mainGlobals "refuse_faulty" = some (some (.ref (He.ga K "refuse_faulty")))),
  fun K => decide (PySem.W.nsIn K mainGlobals "first" = some (some (.ref (He.ga K "first")))),
  fun K => decide (PySem.W.nsIn K mainGlobals "seen" = some (some (.ref (He.ga K "seen"))))]
def hexl1 : List (PySem.W.Frag → Bool) := [fun K => decide (PySem.W.nsIn K mainGlobals "frame" = some (some (.ref (He.ga K "frame")))),
  fun K => decide (PySem.W.nsIn K mainGlobals "refuse_pair" = some (some (.ref (He.ga K "refuse_pair")))),
  fun K => decide (PySem.W.nsIn K mainGlobals "seen_alike" = some (some (.ref (He.ga K "seen_alike")))),
  fun K => decide (PySem.W.nsIn K mainGlobals "pair_behind" = some (some (.ref (He.ga K "pair_behind")))),
  fun K => decide (PySem.W.nsIn K mainGlobals "search_pairs" = some (some (.ref (He.ga K "search_pairs")))),
  fun K => decide (PySem.W.nsIn K mainGlobals "wish_holds" = some (some (.ref (He.ga K "wish_holds")))),
  fun K => decide (PySem.W.nsIn K mainGlobals "refuse_wish" = some (some (.ref (He.ga K "refuse_wish")))),
  fun K => decide (PySem.W.nsIn K mainGlobals "paper_holds" = some (some (.ref (He.ga K "paper_holds")))),
  fun K => decide (PySem.W.nsIn K mainGlobals "search" = some (some (.ref (He.ga K "search")))),
  fun K => decide (PySem.W.nsIn K mainGlobals "alike_holds" = some (some (.ref (He.ga K "alike_holds")))),
  fun K => decide (PySem.W.nsIn K mainGlobals "_law_bag" = some (some (.ref (He.ga K "_law_bag")))),
  fun K => decide (PySem.W.nsIn K mainGlobals "_law_draw" = some (some (.ref (He.ga K "_law_draw")))),
  fun K => decide (PySem.W.nsIn K mainGlobals "_law_free" = some (some (.ref (He.ga K "_law_free")))),
  fun K => decide (PySem.W.nsIn K mainGlobals "_law_bound" = some (some (.ref (He.ga K "_law_bound")))),
  fun K => decide (PySem.W.nsIn K mainGlobals "_law_held" = some (some (.ref (He.ga K "_law_held")))),
  fun K => decide (PySem.W.nsIn K mainGlobals "_law_told" = some (some (.ref (He.ga K "_law_told")))),
  fun K => decide (PySem.W.nsIn K mainGlobals "law" = some (some (.ref (He.ga K "law")))),
  fun K => decide (PySem.W.nsIn K mainGlobals "Machine" = some (some (.ref (He.ga K "Machine")))),
  fun K => PySem.W.plainGet K (He.ga K "Machine") Str.empty,
  fun K => PySem.W.hasDictIn K (He.ga K "Machine"),
  fun K => PySem.W.plainOver K (He.ga K "Machine"),
  fun K => decide (PySem.W.findIn K (.ref (He.ga K "Machine")) "__setattr__" = some (some (.builtin "object.__setattr__"))),
  fun K => PySem.W.makesIn K (He.ga K "Machine"),
  fun K => PySem.W.keepIn K (.ref (He.ga K "Machine")),
  fun K => decide (PySem.W.findIn K (.ref (He.ga K "Machine")) "segments" = some none),
  fun K => decide (PySem.W.findIn K (.ref (He.ga K "Machine")) "base" = some none),
  fun K => decide (PySem.W.findIn K (.ref (He.ga K "Machine")) "segment" = some (some (.ref (He.ma K (He.ga K "Machine") "segment")))),
  fun K => PySem.W.isFn K (.ref (He.ma K (He.ga K "Machine") "segment")),
  fun K => decide (PySem.W.findIn K (.ref (He.ga K "Machine")) "__len__" = some (some (.ref (He.ma K (He.ga K "Machine") "__len__")))),
  fun K => PySem.W.isFn K (.ref (He.ma K (He.ga K "Machine") "__len__"))]
def hexl2 : List (PySem.W.Frag → Bool) := [fun K => decide (PySem.W.findIn K (.ref (He.ga K "Machine")) "__init__" = some (some (.ref (He.ma K (He.ga K "Machine") "__init__")))),
  fun K => PySem.W.isFn K (.ref (He.ma K (He.ga K "Machine") "__init__")),
  fun K => decide (PySem.W.nsIn K mainGlobals "Fault" = some (some (.ref (He.ga K "Fault")))),
  fun K => excF K (He.ga K "Fault") [.type "Exception", .type "BaseException", .type "object"] "Exception.__new__",
  fun K => decide (PySem.W.findIn K (.ref (He.ga K "Fault")) "__init__" = some (some (.ref (He.ma K (He.ga K "Fault") "__init__")))),
  fun K => decide (PySem.W.typeIn K (.ref (He.ma K (He.ga K "Fault") "__init__")) = some (.type "function")),
  fun K => decide (PySem.W.findIn K (.ref (He.ga K "Fault")) "__setattr__" = some (some (.builtin "object.__setattr__"))),
  fun K => decide (PySem.W.subIn K (.ref (He.ga K "Fault")) (.type "BaseException") = some true),
  fun K => decide (PySem.W.typeIn K (.ref (He.ga K "Fault")) = some (.type "type")),
  fun K => PySem.W.keepIn K (.ref (He.ga K "Fault")),
  fun K => decide (PySem.W.findIn K (.ref (He.ga K "Fault")) "cause" = some none),
  fun K => decide (PySem.W.findIn K (.ref (He.ga K "Fault")) "__getattribute__" = some (some (.builtin "BaseException.__getattribute__"))),
  fun K => decide (PySem.W.findIn K (.ref (He.ga K "Fault")) "__getattr__" = some none),
  fun K => PySem.W.hasDictIn K (He.ga K "Fault"),
  fun K => decide (PySem.W.exmOne K (.ref (He.ga K "Fault")) (.ref (He.ga K "Fault")) = some true),
  fun K => decide (PySem.W.nsIn K mainGlobals "Exception" = some none),
  fun K => clsF K (.type "Exception") (.type "type") "__init__" (.builtin "Exception.__init__"),
  fun K => decide (PySem.W.nsIn K mainGlobals "Run" = some (some (.ref (He.ga K "Run")))),
  fun K => PySem.W.plainGet K (He.ga K "Run") Str.empty,
  fun K => PySem.W.hasDictIn K (He.ga K "Run"),
  fun K => PySem.W.plainOver K (He.ga K "Run"),
  fun K => decide (PySem.W.findIn K (.ref (He.ga K "Run")) "__setattr__" = some (some (.builtin "object.__setattr__"))),
  fun K => PySem.W.makesIn K (He.ga K "Run"),
  fun K => PySem.W.keepIn K (.ref (He.ga K "Run")),
  fun K => decide (PySem.W.findIn K (.ref (He.ga K "Run")) "machine" = some none),
  fun K => decide (PySem.W.findIn K (.ref (He.ga K "Run")) "hand" = some none),
  fun K => decide (PySem.W.findIn K (.ref (He.ga K "Run")) "ring" = some none),
  fun K => decide (PySem.W.findIn K (.ref (He.ga K "Run")) "a" = some none),
  fun K => decide (PySem.W.findIn K (.ref (He.ga K "Run")) "pointers" = some none),
  fun K => decide (PySem.W.findIn K (.ref (He.ga K "Run")) "memory" = some none)]
def hexl3 : List (PySem.W.Frag → Bool) := [fun K => decide (PySem.W.findIn K (.ref (He.ga K "Run")) "where" = some none),
  fun K => decide (PySem.W.findIn K (.ref (He.ga K "Run")) "calls" = some none),
  fun K => decide (PySem.W.findIn K (.ref (He.ga K "Run")) "steps" = some none),
  fun K => decide (PySem.W.findIn K (.ref (He.ga K "Run")) "touches" = some none),
  fun K => decide (PySem.W.findIn K (.ref (He.ga K "Run")) "__init__" = some (some (.ref (He.ma K (He.ga K "Run") "__init__")))),
  fun K => PySem.W.isFn K (.ref (He.ma K (He.ga K "Run") "__init__")),
  fun K => decide (PySem.W.findIn K (.ref (He.ga K "Run")) "pointer" = some (some (.ref (He.ma K (He.ga K "Run") "pointer")))),
  fun K => PySem.W.isFn K (.ref (He.ma K (He.ga K "Run") "pointer")),
  fun K => decide (PySem.W.findIn K (.ref (He.ga K "Run")) "spot" = some (some (.ref (He.ma K (He.ga K "Run") "spot")))),
  fun K => PySem.W.isFn K (.ref (He.ma K (He.ga K "Run") "spot")),
  fun K => decide (PySem.W.findIn K (.ref (He.ga K "Run")) "read" = some (some (.ref (He.ma K (He.ga K "Run") "read")))),
  fun K => PySem.W.isFn K (.ref (He.ma K (He.ga K "Run") "read")),
  fun K => decide (PySem.W.findIn K (.ref (He.ga K "Run")) "write" = some (some (.ref (He.ma K (He.ga K "Run") "write")))),
  fun K => PySem.W.isFn K (.ref (He.ma K (He.ga K "Run") "write")),
  fun K => decide (PySem.W.findIn K (.ref (He.ga K "Run")) "jump" = some (some (.ref (He.ma K (He.ga K "Run") "jump")))),
  fun K => PySem.W.isFn K (.ref (He.ma K (He.ga K "Run") "jump")),
  fun K => decide (PySem.W.findIn K (.ref (He.ga K "Run")) "enter" = some (some (.ref (He.ma K (He.ga K "Run") "enter")))),
  fun K => PySem.W.isFn K (.ref (He.ma K (He.ga K "Run") "enter")),
  fun K => decide (PySem.W.findIn K (.ref (He.ga K "Run")) "next_row" = some (some (.ref (He.ma K (He.ga K "Run") "next_row")))),
  fun K => PySem.W.isFn K (.ref (He.ma K (He.ga K "Run") "next_row")),
  fun K => decide (PySem.W.findIn K (.ref (He.ga K "Run")) "not_the_hand" = some (some (.ref (He.ma K (He.ga K "Run") "not_the_hand")))),
  fun K => PySem.W.isFn K (.ref (He.ma K (He.ga K "Run") "not_the_hand")),
  fun K => decide (PySem.W.findIn K (.ref (He.ga K "Run")) "forget" = some (some (.ref (He.ma K (He.ga K "Run") "forget")))),
  fun K => PySem.W.isFn K (.ref (He.ma K (He.ga K "Run") "forget")),
  fun K => decide (PySem.W.findIn K (.ref (He.ga K "Run")) "stand_now" = some (some (.ref (He.ma K (He.ga K "Run") "stand_now")))),
  fun K => PySem.W.isFn K (.ref (He.ma K (He.ga K "Run") "stand_now")),
  fun K => decide (PySem.W.nsIn K mainGlobals "done" = some (some (.ref (He.ga K "done")))),
  fun K => decide (PySem.W.nsIn K mainGlobals "ACTIONS" = some (some (.ref (He.ga K "ACTIONS")))),
  fun K => decide (PySem.W.nsIn K (He.ga K "ACTIONS") "set" = some (some (.ref (He.ga K "do_set")))),
  fun K => decide (PySem.W.nsIn K (He.ga K "ACTIONS") "add" = some (some (.ref (He.ga K "do_add"))))]
def hexl4 : List (PySem.W.Frag → Bool) := [fun K => decide (PySem.W.nsIn K (He.ga K "ACTIONS") "load" = some (some (.ref (He.ga K "do_load")))),
  fun K => decide (PySem.W.nsIn K (He.ga K "ACTIONS") "store" = some (some (.ref (He.ga K "do_store")))),
  fun K => decide (PySem.W.nsIn K (He.ga K "ACTIONS") "fetch" = some (some (.ref (He.ga K "do_fetch")))),
  fun K => decide (PySem.W.nsIn K (He.ga K "ACTIONS") "keep" = some (some (.ref (He.ga K "do_keep")))),
  fun K => decide (PySem.W.nsIn K (He.ga K "ACTIONS") "aim" = some (some (.ref (He.ga K "do_aim")))),
  fun K => decide (PySem.W.nsIn K (He.ga K "ACTIONS") "move" = some (some (.ref (He.ga K "do_move")))),
  fun K => decide (PySem.W.nsIn K (He.ga K "ACTIONS") "zero" = some (some (.ref (He.ga K "do_zero")))),
  fun K => decide (PySem.W.nsIn K (He.ga K "ACTIONS") "go" = some (some (.ref (He.ga K "do_go")))),
  fun K => decide (PySem.W.nsIn K (He.ga K "ACTIONS") "call" = some (some (.ref (He.ga K "do_call")))),
  fun K => decide (PySem.W.nsIn K (He.ga K "ACTIONS") "return" = some (some (.ref (He.ga K "do_return")))),
  fun K => intF K mainGlobals "RINGS" 8,
  fun K => intF K mainGlobals "POINTERS" 4,
  fun K => intF K mainGlobals "MOST_SEGMENTS" 8,
  fun K => intF K mainGlobals "MOST_WORDS" 16,
  fun K => intF K mainGlobals "MOST_ROWS" 24,
  fun K => intF K mainGlobals "LEAST_BASE" 2,
  fun K => intF K mainGlobals "DEEPEST" 8,
  fun K => decide (PySem.W.nsIn K mainGlobals "len" = some none),
  fun K => decide (PySem.W.nsIn K mainGlobals "range" = some none),
  fun K => decide (PySem.W.nsIn K mainGlobals "isinstance" = some none),
  fun K => decide (PySem.W.nsIn K mainGlobals "all" = some none),
  fun K => decide (PySem.W.nsIn K mainGlobals "max" = some none),
  fun K => decide (PySem.W.nsIn K mainGlobals "sorted" = some none),
  fun K => decide (PySem.W.nsIn K mainGlobals "tuple" = some none),
  fun K => decide (PySem.W.nsIn K mainGlobals "list" = some none),
  fun K => decide (PySem.W.nsIn K mainGlobals "int" = some none),
  fun K => decide (PySem.W.nsIn K mainGlobals "bool" = some none),
  fun K => decide (PySem.W.nsIn K mainGlobals "str" = some none),
  fun K => decide (PySem.W.nsIn K mainGlobals "enumerate" = some none),
  fun K => decide (PySem.W.nsIn K mainGlobals "zip" = some none)]
def hexl5 : List (PySem.W.Frag → Bool) := [fun K => decide (PySem.W.nsIn K mainGlobals "sum" = some none),
  fun K => decide (PySem.W.nsIn K mainGlobals "min" = some none),
  fun K => decide (PySem.W.nsIn K mainGlobals "any" = some none),
  fun K => decide (PySem.W.nsIn K mainGlobals "abs" = some none),
  fun K => decide (PySem.W.nsIn K mainGlobals "ROW_FORMS" = some (some (.ref (He.ga K "ROW_FORMS")))),
  fun K => strF K (He.ga K "ROW_FORMS") "set" "n",
  fun K => strF K (He.ga K "ROW_FORMS") "add" "n",
  fun K => strF K (He.ga K "ROW_FORMS") "load" "pn",
  fun K => strF K (He.ga K "ROW_FORMS") "store" "pn",
  fun K => strF K (He.ga K "ROW_FORMS") "fetch" "ppn",
  fun K => strF K (He.ga K "ROW_FORMS") "keep" "ppn",
  fun K => strF K (He.ga K "ROW_FORMS") "aim" "psn",
  fun K => strF K (He.ga K "ROW_FORMS") "move" "ppn",
  fun K => strF K (He.ga K "ROW_FORMS") "zero" "n",
  fun K => strF K (He.ga K "ROW_FORMS") "go" "n",
  fun K => strF K (He.ga K "ROW_FORMS") "call" "p",
  fun K => strF K (He.ga K "ROW_FORMS") "return" "",
  fun K => decide (PySem.W.nsIn K mainGlobals "RIGHTS" = some (some (.ref (He.ga K "RIGHTS")))),
  fun K => tupF K (He.ga K "RIGHTS") ["", "r", "w", "x", "rw", "rx", "wx", "rwx"],
  fun K => decide (PySem.W.nsIn K mainGlobals "stands" = some (some (.ref (He.ga K "stands")))),
  fun K => decide (PySem.W.nsIn K mainGlobals "way" = some (some (.ref (He.ga K "way")))),
  fun K => decide (PySem.W.nsIn K mainGlobals "paper" = some (some (.ref (He.ga K "paper")))),
  fun K => decide (PySem.W.nsIn K mainGlobals "parting" = some (some (.ref (He.ga K "parting")))),
  fun K => decide (PySem.W.nsIn K mainGlobals "alike" = some (some (.ref (He.ga K "alike")))),
  fun K => decide (PySem.W.nsIn K mainGlobals "Finds" = some (some (.ref (He.ga K "Finds")))),
  fun K => PySem.W.plainGet K (He.ga K "Finds") Str.empty,
  fun K => PySem.W.hasDictIn K (He.ga K "Finds"),
  fun K => PySem.W.plainOver K (He.ga K "Finds"),
  fun K => decide (PySem.W.findIn K (.ref (He.ga K "Finds")) "__setattr__" = some (some (.builtin "object.__setattr__"))),
  fun K => PySem.W.makesIn K (He.ga K "Finds")]
def hexl6 : List (PySem.W.Frag → Bool) := [fun K => PySem.W.keepIn K (.ref (He.ga K "Finds")),
  fun K => decide (PySem.W.findIn K (.ref (He.ga K "Finds")) "limit" = some none),
  fun K => decide (PySem.W.findIn K (.ref (He.ga K "Finds")) "things" = some none),
  fun K => decide (PySem.W.findIn K (.ref (He.ga K "Finds")) "ways" = some none),
  fun K => decide (PySem.W.findIn K (.ref (He.ga K "Finds")) "taken" = some none),
  fun K => decide (PySem.W.findIn K (.ref (He.ga K "Finds")) "__init__" = some (some (.ref (He.ma K (He.ga K "Finds") "__init__")))),
  fun K => PySem.W.isFn K (.ref (He.ma K (He.ga K "Finds") "__init__")),
  fun K => decide (PySem.W.findIn K (.ref (He.ga K "Finds")) "more" = some (some (.ref (He.ma K (He.ga K "Finds") "more")))),
  fun K => PySem.W.isFn K (.ref (He.ma K (He.ga K "Finds") "more")),
  fun K => decide (PySem.W.findIn K (.ref (He.ga K "Finds")) "take" = some (some (.ref (He.ma K (He.ga K "Finds") "take")))),
  fun K => PySem.W.isFn K (.ref (He.ma K (He.ga K "Finds") "take")),
  fun K => decide (PySem.W.findIn K (.ref (He.ga K "Finds")) "put" = some (some (.ref (He.ma K (He.ga K "Finds") "put")))),
  fun K => PySem.W.isFn K (.ref (He.ma K (He.ga K "Finds") "put")),
  fun K => decide (PySem.W.nsIn K mainGlobals "RingError" = some (some (.ref (He.ga K "RingError")))),
  fun K => decide (PySem.W.findIn K (.ref (He.ga K "RingError")) "__init__" = some (some (.ref (He.ma K (He.ga K "RingError") "__init__")))),
  fun K => decide (PySem.W.specialIn K (.ref (He.ga K "RingError")) "__getattribute__" = some (some (.builtin "type.__getattribute__"))),
  fun K => decide (PySem.W.typeIn K (.ref (He.ga K "RingError")) = some (.type "type")),
  fun K => PySem.W.readsIn K (He.ga K "RingError") (.type "type"),
  fun K => clsF K (.ref (He.ga K "RingError")) (.type "type") "__init__" (.ref (He.ma K (He.ga K "RingError") "__init__")),
  fun K => decide (PySem.W.nsIn K mainGlobals "ValueError" = some none),
  fun K => clsF K (.type "ValueError") (.type "type") "__init__" (.builtin "ValueError.__init__"),
  fun K => decide (PySem.W.specialIn K (.builtin "object.__class__") "__get__" = some (some (.builtin "getset_descriptor.__get__"))),
  fun K => decide (PySem.W.takesIn K (.builtin "object.__class__") = some true),
  fun K => decide (PySem.W.nsIn K mainGlobals "TooMany" = some (some (.ref (He.ga K "TooMany")))),
  fun K => excF K (He.ga K "TooMany") [.ref (He.ga K "RingError"), .type "ValueError", .type "Exception", .type "BaseException", .type "object"] "ValueError.__new__",
  fun K => decide (PySem.W.findIn K (.ref (He.ga K "TooMany")) "__init__" = some (some (.ref (He.ma K (He.ga K "TooMany") "__init__")))),
  fun K => decide (PySem.W.typeIn K (.ref (He.ma K (He.ga K "TooMany") "__init__")) = some (.type "function")),
  fun K => decide (PySem.W.findIn K (.ref (He.ga K "TooMany")) "__setattr__" = some (some (.builtin "object.__setattr__"))),
  fun K => decide (PySem.W.subIn K (.ref (He.ga K "TooMany")) (.type "BaseException") = some true),
  fun K => decide (PySem.W.typeIn K (.ref (He.ga K "TooMany")) = some (.type "type"))]
def hexl7 : List (PySem.W.Frag → Bool) := [fun K => PySem.W.keepIn K (.ref (He.ga K "TooMany")),
  fun K => decide (PySem.W.findIn K (.ref (He.ga K "TooMany")) "what" = some none),
  fun K => decide (PySem.W.findIn K (.ref (He.ga K "TooMany")) "__getattribute__" = some (some (.builtin "BaseException.__getattribute__"))),
  fun K => decide (PySem.W.findIn K (.ref (He.ga K "TooMany")) "__getattr__" = some none),
  fun K => PySem.W.hasDictIn K (He.ga K "TooMany"),
  fun K => decide (PySem.W.findIn K (.ref (He.ga K "TooMany")) "__class__" = some (some (.builtin "object.__class__"))),
  fun K => decide (PySem.W.mroIn K (He.ga K "TooMany") (.type "object") = some true),
  fun K => decide (PySem.W.exmOne K (.ref (He.ga K "TooMany")) (.ref (He.ga K "TooMany")) = some true),
  fun K => decide (PySem.W.kitOne K (.ref (He.ga K "TooMany")) (.ref (He.ga K "RingError")) = some true),
  fun K => decide (PySem.W.kitOne K (.ref (He.ga K "TooMany")) (.type "ValueError") = some true),
  fun K => intF K mainGlobals "LIMIT" 400]
def hex_0 (K : PySem.W.Frag) : Bool := ((hexl0.all fun f => f K) && (hexl1.all fun f => f K))
def hck_0 : Ck := ⟨hex_0, [hd_is_whole, hd_is_below, hd_is_ring, hd_number_fits, hd_row_fits, hd_word_fits, hd_brackets_fit, hd_segment_fits, hd_may_read, hd_may_write, hd_raised, hd_entered, hd_do_set, hd_do_add, hd_do_load, hd_do_store, hd_do_fetch, hd_do_keep, hd_do_aim], [((fun K => (He.ga K "ACTIONS")), ["set", "add", "load", "store", "fetch", "keep", "aim", "move", "zero", "go", "call", "return"]), ((fun K => (He.ga K "ROW_FORMS")), ["set", "add", "load", "store", "fetch", "keep", "aim", "move", "zero", "go", "call", "return"])]⟩
def hex_1 (K : PySem.W.Frag) : Bool := ((hexl2.all fun f => f K) && (hexl3.all fun f => f K))
def hck_1 : Ck := ⟨hex_1, [hd_do_move, hd_do_zero, hd_do_go, hd_do_call, hd_do_return, hd_act, hd_act_on, hd_do_deed, hd_refuse_faulty, hd_first, hd_seen, hd_frame, hd_refuse_pair, hd_seen_alike, hd_pair_behind, hd_search_pairs, hd_wish_holds, hd_refuse_wish, hd_paper_holds], []⟩
def hex_2 (K : PySem.W.Frag) : Bool := ((hexl4.all fun f => f K) && (hexl5.all fun f => f K))
def hck_2 : Ck := ⟨hex_2, [hd_search, hd_alike_holds, hd_law_bag, hd_law_draw, hd_law_free, hd_law_bound, hd_law_held, hd_law_told, hd_law, hd_Machine_segment, hd_Machine__len, hd_Machine__init, hd_Fault__init, hd_Run__init, hd_Run_pointer, hd_Run_spot, hd_Run_read, hd_Run_write, hd_Run_jump], []⟩
def hex_3 (K : PySem.W.Frag) : Bool := ((hexl6.all fun f => f K) && (hexl7.all fun f => f K))
def hck_3 : Ck := ⟨hex_3, [hd_Run_enter, hd_Run_next_row, hd_Run_not_the_hand, hd_Run_forget, hd_Run_stand_now, hd_done, hd_stands, hd_way, hd_paper, hd_parting, hd_alike, hd_Finds__init, hd_Finds_more, hd_Finds_take, hd_Finds_put, hd_RingError__init, hd_TooMany__init], []⟩
def hnames0 : List PySem.Str := ["RingError",
  "NoMachine",
  "NoSegment",
  "NoDeed",
  "NoWish",
  "NoRing",
  "TooMany",
  "Unlike",
  "RINGS",
  "POINTERS",
  "MOST_SEGMENTS",
  "MOST_WORDS",
  "MOST_ROWS",
  "LEAST_BASE",
  "RIGHTS",
  "ROW_FORMS",
  "is_whole",
  "is_below",
  "is_ring",
  "number_fits",
  "row_fits",
  "word_fits",
  "brackets_fit",
  "segment_fits",
  "BASE",
  "Machine",
  "may_read",
  "may_write",
  "DEEPEST",
  "Fault"]
def hnames1 : List PySem.Str := ["Run",
  "raised",
  "entered",
  "do_set",
  "do_add",
  "do_load",
  "do_store",
  "do_fetch",
  "do_keep",
  "do_aim",
  "do_move",
  "do_zero",
  "do_go",
  "do_call",
  "do_return",
  "ACTIONS",
  "act",
  "act_on",
  "do_deed",
  "MOST",
  "first",
  "refuse_faulty",
  "done",
  "Finds",
  "LIMIT",
  "stands",
  "way",
  "paper",
  "paper_holds",
  "refuse_wish"]
def hnames2 : List PySem.Str := ["wish_holds",
  "search",
  "seen",
  "parting",
  "alike",
  "alike_holds",
  "frame",
  "refuse_pair",
  "seen_alike",
  "pair_behind",
  "search_pairs",
  "_law_bag",
  "_law_draw",
  "_law_free",
  "_law_bound",
  "_law_held",
  "_law_told"]
def hnames : List PySem.Str := hnames0 ++ hnames1 ++ hnames2
def hobj0 : List Addr := [0,
  1,
  2,
  3,
  4,
  5,
  6,
  7,
  8,
  9,
  10,
  11,
  12,
  13,
  14,
  15,
  16,
  17,
  18,
  19,
  20,
  21,
  22,
  23,
  24,
  25,
  26,
  27,
  28,
  29,
  30,
  31,
  32,
  33,
  34,
  35,
  36,
  37,
  38,
  39]
def hobj1 : List Addr := [40,
  41,
  42,
  43,
  44,
  45,
  46,
  47,
  48,
  49,
  50,
  51,
  52,
  53,
  54,
  55,
  56,
  57,
  58,
  59,
  60,
  61,
  62,
  63,
  64,
  65,
  66,
  67,
  68,
  69,
  70,
  71,
  72,
  73,
  74,
  75,
  76,
  77,
  78,
  79]
def hobj2 : List Addr := [80,
  81,
  82,
  83,
  84,
  85,
  86,
  87,
  88,
  89,
  90,
  91,
  92,
  93,
  94,
  95,
  96,
  97,
  98,
  99,
  100,
  101,
  102,
  103,
  104,
  105,
  106,
  107,
  108,
  109,
  110,
  111,
  112,
  113,
  114,
  115,
  116,
  117,
  118,
  119]
def hobj3 : List Addr := [120,
  121,
  122,
  123,
  124,
  125,
  126,
  127,
  128,
  129,
  130,
  131,
  132,
  133,
  134,
  135,
  136,
  137,
  138,
  139,
  140,
  141,
  142,
  143,
  144,
  145,
  146,
  147,
  148,
  149,
  150,
  151,
  152,
  153,
  154,
  155,
  156,
  157,
  158,
  159]
def hobj4 : List Addr := [160,
  161,
  162,
  163,
  164,
  165,
  166,
  167,
  168,
  169,
  170,
  171,
  172,
  173,
  174,
  175,
  176,
  177,
  178,
  179,
  180,
  181,
  182,
  183,
  184,
  185,
  186,
  187,
  188,
  189,
  190,
  191,
  192,
  193,
  194,
  195,
  196,
  197,
  198,
  199]
def hobj5 : List Addr := [200,
  201,
  202,
  203,
  204,
  205,
  206,
  207,
  208,
  209,
  210,
  211,
  212,
  213,
  214,
  215,
  216,
  217,
  218,
  219,
  220,
  221,
  222,
  223,
  224,
  225,
  226,
  227,
  228,
  229,
  230,
  231,
  232,
  233,
  234,
  235,
  236,
  237,
  238,
  239]
def hobj6 : List Addr := [240,
  241,
  242,
  243,
  244,
  245,
  246,
  247,
  248,
  249,
  250,
  251,
  252,
  253,
  254,
  255,
  256,
  257,
  258,
  259,
  260,
  261,
  262,
  263,
  264,
  265,
  266,
  267,
  268,
  269,
  270,
  271,
  272,
  273,
  274,
  275,
  276,
  277,
  278,
  279]
def hobj7 : List Addr := [280,
  281,
  282,
  283,
  284,
  285,
  286,
  287,
  288,
  289,
  290,
  291,
  292,
  293,
  294,
  295,
  296,
  297,
  298,
  299,
  300,
  301,
  302,
  303,
  304,
  305,
  306,
  307,
  308,
  309,
  310,
  311,
  312,
  313,
  314,
  315,
  316,
  317,
  318,
  319]
def hobj8 : List Addr := [320,
  321,
  322,
  323,
  324,
  325,
  326,
  327,
  328,
  329,
  330,
  331,
  332,
  333,
  334,
  335,
  336,
  337,
  338,
  339,
  340,
  341,
  342,
  343,
  344,
  345,
  346,
  347,
  348,
  349,
  350,
  351,
  352,
  353,
  354,
  355,
  356,
  357,
  358,
  359]
def hobj9 : List Addr := [360,
  361,
  362,
  363,
  364,
  365,
  366,
  367,
  368,
  369,
  370,
  371,
  372,
  373,
  374,
  375,
  376,
  377,
  378,
  379,
  380,
  381,
  382,
  383,
  384,
  385,
  386,
  387,
  388,
  389,
  390,
  391,
  392,
  393,
  394,
  395,
  396,
  397,
  398,
  399]
def hobj10 : List Addr := [400,
  401,
  402,
  403,
  404,
  405,
  406,
  407,
  408,
  409,
  410,
  411,
  412,
  413,
  414,
  415,
  416,
  417,
  418,
  419,
  420,
  421,
  422,
  423,
  424,
  425,
  426,
  427,
  428,
  429,
  430,
  431,
  432,
  433,
  434,
  435,
  436,
  437,
  438,
  439]
def hobj11 : List Addr := [440,
  441,
  442,
  443,
  444,
  445,
  446,
  447,
  448,
  449,
  450,
  451,
  452,
  453,
  454,
  455,
  456,
  457,
  458,
  459,
  460,
  461,
  462,
  463,
  464,
  465,
  466,
  467,
  468,
  469,
  470,
  471,
  472,
  473,
  474,
  475,
  476,
  477,
  478,
  479]
def hobj12 : List Addr := [480,
  481,
  482,
  483,
  484,
  485,
  486,
  487,
  488,
  489,
  490,
  491,
  492,
  493,
  494,
  495,
  496,
  497,
  498,
  499,
  500,
  501,
  502,
  503,
  504,
  505,
  506,
  507,
  508,
  509,
  510,
  511,
  512,
  513,
  514,
  515,
  516,
  517,
  518,
  519]
def hobj13 : List Addr := [520,
  521,
  522,
  523,
  524,
  525,
  526,
  527,
  528,
  529,
  530,
  531,
  532,
  533,
  534,
  535,
  536,
  537,
  538,
  539,
  540,
  541,
  542,
  543,
  544,
  545,
  546,
  547,
  548,
  549,
  550,
  551,
  552,
  553,
  554,
  555,
  556,
  557,
  558,
  559]
def hobj14 : List Addr := [560,
  561,
  562,
  563,
  564,
  565,
  566,
  567,
  568,
  569,
  570,
  571,
  572,
  573,
  574,
  575,
  576,
  577,
  578,
  579,
  580,
  581,
  582,
  583,
  584,
  585,
  586,
  587,
  588,
  589,
  590,
  591,
  592,
  593,
  594,
  595,
  596,
  597,
  598,
  599]
def hobj15 : List Addr := [600,
  601,
  602,
  603,
  604,
  605,
  606,
  607,
  608,
  609,
  610,
  611,
  612,
  613,
  614,
  615,
  616,
  617,
  618,
  619,
  620,
  621,
  622,
  623,
  624,
  625,
  626,
  627,
  628,
  629,
  630,
  631,
  632,
  633,
  634,
  635,
  636,
  637,
  638,
  639]
def hobj16 : List Addr := [640,
  641,
  642,
  643,
  644,
  645,
  646,
  647,
  648,
  649,
  650,
  651,
  652,
  653,
  654,
  655,
  656,
  657,
  658,
  659,
  660,
  661,
  662,
  663,
  664,
  665,
  666,
  667,
  668,
  669,
  670,
  671,
  672,
  673,
  674,
  675,
  676,
  677,
  678,
  679]
def hobj17 : List Addr := [680,
  681,
  682,
  683,
  684,
  685,
  686,
  687,
  688,
  689,
  690,
  691,
  692,
  693,
  694,
  695,
  696,
  697,
  698,
  699,
  700,
  701,
  702,
  703,
  704,
  705,
  706,
  707,
  708,
  709,
  710,
  711,
  712,
  713,
  714,
  715,
  716,
  717,
  718,
  719]
def hobj18 : List Addr := [720,
  721,
  722,
  723,
  724,
  725,
  726,
  727,
  728,
  729,
  730,
  731,
  732,
  733,
  734,
  735,
  736,
  737,
  738,
  739,
  740,
  741,
  742,
  743,
  744,
  745,
  746,
  747,
  748,
  749,
  750,
  751,
  752,
  753,
  754,
  755,
  756,
  757,
  758,
  759]
def hobj19 : List Addr := [760,
  761,
  762,
  763,
  764,
  765,
  766,
  767,
  768,
  769,
  770,
  771,
  772,
  773,
  774,
  775,
  776,
  777,
  778,
  779,
  780,
  781,
  782,
  783,
  784,
  785,
  786,
  787,
  788,
  789,
  790,
  791,
  792,
  793,
  794,
  795,
  796,
  797,
  798,
  799]
def hobj20 : List Addr := [800,
  801,
  802,
  803,
  804,
  805,
  806,
  807,
  808,
  809,
  810,
  811,
  812,
  813,
  814,
  815,
  816,
  817,
  818,
  819,
  820,
  821,
  822,
  823,
  824,
  825,
  826,
  827,
  828,
  829,
  830,
  831,
  832,
  833,
  834,
  835,
  836,
  837,
  838,
  839]
def hobj21 : List Addr := [840,
  841,
  842,
  843,
  844,
  845,
  846,
  847,
  848,
  849,
  850,
  851,
  852,
  853,
  854,
  855,
  856,
  857,
  858,
  859,
  860,
  861,
  862,
  863,
  864,
  865,
  866,
  867,
  868,
  869,
  870,
  871,
  872,
  873,
  874,
  875,
  876,
  877,
  878,
  879]
def hobj22 : List Addr := [880,
  881,
  882,
  883,
  884,
  885,
  886,
  887,
  888,
  889,
  890,
  891,
  892,
  893,
  894,
  895,
  896,
  897,
  898,
  899,
  900,
  901,
  902,
  903,
  904,
  905,
  906,
  907,
  908,
  909,
  910,
  911,
  912,
  913,
  914,
  915,
  916,
  917,
  918,
  919]
def hobj23 : List Addr := [920,
  921,
  922,
  923,
  924,
  925,
  926,
  927,
  928,
  929,
  930,
  931,
  932,
  933,
  934,
  935,
  936,
  937,
  938,
  939,
  940,
  941,
  942,
  943,
  944,
  945,
  946,
  947,
  948,
  949,
  950,
  951,
  952,
  953,
  954,
  955,
  956,
  957,
  958,
  959]
def hobj24 : List Addr := [960,
  961,
  962,
  963,
  964,
  965,
  966,
  967,
  968,
  969,
  970,
  971,
  972,
  973,
  974,
  975,
  976,
  977,
  978,
  979,
  980,
  981,
  982,
  983,
  984,
  985,
  986,
  987,
  988,
  989,
  990,
  991,
  992,
  993,
  994,
  995,
  996,
  997,
  998,
  999]
def hobj25 : List Addr := [1000,
  1001,
  1002,
  1003,
  1004,
  1005,
  1006,
  1007,
  1008,
  1009,
  1010,
  1011,
  1012,
  1013,
  1014,
  1015,
  1016,
  1017,
  1018,
  1019,
  1020,
  1021,
  1022,
  1023,
  1024,
  1025,
  1026,
  1027,
  1028,
  1029,
  1030,
  1031,
  1032,
  1033,
  1034,
  1035,
  1036,
  1037,
  1038,
  1039]
def hobj : List Addr := hobj0 ++ hobj1 ++ hobj2 ++ hobj3 ++ hobj4 ++ hobj5 ++ hobj6 ++ hobj7 ++ hobj8 ++ hobj9 ++ hobj10 ++ hobj11 ++ hobj12 ++ hobj13 ++ hobj14 ++ hobj15 ++ hobj16 ++ hobj17 ++ hobj18 ++ hobj19 ++ hobj20 ++ hobj21 ++ hobj22 ++ hobj23 ++ hobj24 ++ hobj25
abbrev hR : PySem.W.OpenRow := PySem.W.OpenLaw.row PySem.Challenge.rw_ringgates_k68_limits_of_stands_and_pairs
abbrev hqv : Program := PySem.W.view hR.prog [86]
def hcks : List Ck := [hck_0, hck_1, hck_2, hck_3]
abbrev hhk : PySem.W.Hook := hookL hobj hcks
set_option maxHeartbeats 0 in
theorem hrunF_0 (w : World) : RunC hR hqv hobj hck_0 9000 hnames (w.withFollow "special-get-raises" false) := by
  intro os
  kernel_rfl
set_option maxHeartbeats 0 in
theorem hrunT_0 (w : World) : RunC hR hqv hobj hck_0 9000 hnames (w.withFollow "special-get-raises" true) := by
  intro os
  kernel_rfl
theorem hrun_0 (w : World) : RunC hR hqv hobj hck_0 9000 hnames w := PySem.W.byRow2 "special-get-raises" (P := fun w => RunC hR hqv hobj hck_0 9000 hnames w) hrunF_0 hrunT_0 w
set_option maxHeartbeats 0 in
theorem hrunF_1 (w : World) : RunC hR hqv hobj hck_1 9000 hnames (w.withFollow "special-get-raises" false) := by
  intro os
  kernel_rfl
set_option maxHeartbeats 0 in
theorem hrunT_1 (w : World) : RunC hR hqv hobj hck_1 9000 hnames (w.withFollow "special-get-raises" true) := by
  intro os
  kernel_rfl
theorem hrun_1 (w : World) : RunC hR hqv hobj hck_1 9000 hnames w := PySem.W.byRow2 "special-get-raises" (P := fun w => RunC hR hqv hobj hck_1 9000 hnames w) hrunF_1 hrunT_1 w
set_option maxHeartbeats 0 in
theorem hrunF_2 (w : World) : RunC hR hqv hobj hck_2 9000 hnames (w.withFollow "special-get-raises" false) := by
  intro os
  kernel_rfl
set_option maxHeartbeats 0 in
theorem hrunT_2 (w : World) : RunC hR hqv hobj hck_2 9000 hnames (w.withFollow "special-get-raises" true) := by
  intro os
  kernel_rfl
theorem hrun_2 (w : World) : RunC hR hqv hobj hck_2 9000 hnames w := PySem.W.byRow2 "special-get-raises" (P := fun w => RunC hR hqv hobj hck_2 9000 hnames w) hrunF_2 hrunT_2 w
set_option maxHeartbeats 0 in
theorem hrunF_3 (w : World) : RunC hR hqv hobj hck_3 9000 hnames (w.withFollow "special-get-raises" false) := by
  intro os
  kernel_rfl
set_option maxHeartbeats 0 in
theorem hrunT_3 (w : World) : RunC hR hqv hobj hck_3 9000 hnames (w.withFollow "special-get-raises" true) := by
  intro os
  kernel_rfl
theorem hrun_3 (w : World) : RunC hR hqv hobj hck_3 9000 hnames w := PySem.W.byRow2 "special-get-raises" (P := fun w => RunC hR hqv hobj hck_3 9000 hnames w) hrunF_3 hrunT_3 w
theorem hrun (w : World) : HandSHeadRun.RunEq hR hqv hhk (obL hobj hcks) 9000 hnames w := run_all fun c hc => by
  simp only [List.mem_cons, List.not_mem_nil, or_false] at hc
  rcases hc with rfl | rfl | rfl | rfl
  · exact hrun_0 w
  · exact hrun_1 w
  · exact hrun_2 w
  · exact hrun_3 w
end Rg
section
open PySem PySem.W PySem.Calls PyProof.Rows
set_option maxRecDepth 100000 in
set_option maxHeartbeats 0 in
theorem Rg.hend (sp : PySem.W.Frag → L2.Sp) (hsp : ∀ (K : PySem.W.Frag) (H : L2.Hp) (a : Addr) (ns : List Int), ns.length ≤ 63 → L2.Only H → L2.SqL K H a (ns.map L2.V.int) → sp K [.ref a] H (fun v _ => v = .bl true) fun _ _ _ => False)
    (F : ∀ (w : World) (K : PySem.W.Frag) (h : Heap) (mg : PySem.Str → Option Value) (fa : Addr), K.In h → h.Ns mainGlobals mg → mg ("law" : PySem.Str) = some (.ref fa) → (∀ ck ∈ Rg.hcks, ck.ok w K) →
      ∃ fd : FuncData, (∀ (s : Shared) (v : Value), BindsTo s fd ⟨[v], []⟩ [("script", v)]) ∧ ∀ base : Heap, K.In base → base.Ns mainGlobals mg → L2.FnOk PySem.Challenge.rw_ringgates_k68_limits_of_stands_and_pairs.prog w K mg base L2.CX0 16 fa fd ["script"] (sp K)) : PySem.Challenge.rw_ringgates_k68_limits_of_stands_and_pairs.Holds := by
  w_on; o_law
  refine HandSHeadRun.head_any (r := OpenLaw.row PySem.Challenge.rw_ringgates_k68_limits_of_stands_and_pairs) (q := Rg.hqv) (H := Rg.hhk) (ob := Rg.obL Rg.hobj Rg.hcks) (M := 9000) (loose := Rg.hnames) (d := HandSHeadRun.topDef (OpenLaw.row PySem.Challenge.rw_ringgates_k68_limits_of_stands_and_pairs).prog 86) (kwd := []) Rg.obL_eq
    (by kernel_rfl) (fun s => by kernel_rfl) Rg.hrun (by kernel_rfl) (by kernel_rfl) (by kernel_rfl) (by rfl) (by first | assumption | decide +kernel) (by decide +kernel) ⟨rfl, rfl, rfl, rfl, rfl, by decide +kernel⟩ ?hw ?hc
  case hw => w_witness2
  case hc =>
    refine L2.walk_ofE (l := PySem.Challenge.rw_ringgates_k68_limits_of_stands_and_pairs) (n := 63) (k := 16) (x := "script") (CX := L2.CX0) rfl (by decide) (by kernel_rfl) ⟨rfl, by decide, by decide⟩ ?F (fun _ _ _ _ z => z)
    intro w mg fa h Y G hmg0
    obtain ⟨K, KX, c⟩ := Y
    have hmg : mg ("law" : PySem.Str) = some (.ref fa) := by
      have e : (HandSHeadRun.topDef (OpenLaw.row PySem.Challenge.rw_ringgates_k68_limits_of_stands_and_pairs).prog 86).name = ("law" : PySem.Str) := by kernel_rfl
      rw [← e]
      exact hmg0
    obtain ⟨fd, hb, hF⟩ := F w K _ mg fa KX G hmg c
    exact ⟨K, fd, sp K, KX, hb, hsp K, hF⟩
end
set_option maxHeartbeats 16000000
namespace Rg
open PySem PySem.Spec PyProof.Rows L2
/-- the text's signs and the tuple's items, side by side -/
def ItzS (K : PySem.W.Frag) (x : PySem.Str) (b : Addr) : It :=
  ⟨fun i H => ∃ (ys : List V) (c : Nat) (y : V), SqT K H b ys ∧ x.cps[i]? = some c ∧ ys[i]? = some y,
    fun i H v H' => ∃ T c y, v = .ref T ∧ H T = none ∧ H' = upd H T (.tup [.str ⟨#[c]⟩, y]) ∧ x.cps[i]? = some c ∧ ∀ ys, SqT K H b ys → ys[i]? = some y,
    fun i H => ∃ ys : List V, SqT K H b ys ∧ i = min x.cps.size ys.length⟩
theorem turn_zipS {P : Program} {w : World} {K : PySem.W.Frag} {elts : List Expr} {kk : Nat} {tpos : Pos} {x : PySem.Str} {t : Tok} {b z TI TO i1 i2 : Addr} (hb : b ≠ z ∧ b ≠ TI ∧ b ≠ TO ∧ b ≠ i1 ∧ b ≠ i2)
    (S : ZipSep2 z TI TO i1 i2 [i1] [i2, b]) :
    Turn P w K (.Tuple elts kk tpos) (ItzS K x b) [z, TI, TO, i1, i2] z (fun i h => IsZip h z TI TO .none ∧ IsTupOf2 h TI (.ref i1) (.ref i2) ∧ (∃ a1 a2, IsTupOf2 h TO a1 a2) ∧ h.IsStrIter i1 (strIterType x) x t i ∧ h.IsTupleIter i2 b i) where
  mem := by simp
  obj := fun i h st c hc => by
    obtain ⟨hz, hTI, ⟨u, y, hTO⟩, ⟨o1, e1, _, d1⟩, ⟨o2, e2, _, d2⟩⟩ := st
    have e' : c = z ∨ c = TI ∨ c = TO ∨ c = i1 ∨ c = i2 := by simpa using hc
    rcases e' with q | q | q | q | q
    · rw [q]; exact ⟨_, hz, fun v q => nomatch q⟩
    · rw [q]; exact ⟨_, hTI, fun v q => nomatch q⟩
    · rw [q]; exact ⟨_, hTO, fun v q => nomatch q⟩
    · rw [q]; exact ⟨o1, e1, fun v q => by rw [d1] at q; cases q⟩
    · rw [q]; exact ⟨o2, e2, fun v q => by rw [d2] at q; cases q⟩
  keep := fun i h h' st k => by
    obtain ⟨hz, hTI, ⟨u, y, hTO⟩, h1, h2⟩ := st
    obtain ⟨o1, e1, r1⟩ := h1
    exact ⟨k z (by simp) _ hz, k TI (by simp) _ hTI, ⟨u, y, k TO (by simp) _ hTO⟩, ⟨o1, k i1 (by simp) _ e1, r1⟩, h2.at fun o q => k i2 (by simp) o q⟩
  item := by
    intro X hP hw hK hc i pins s σ H E I hf st hg
    subst hP hw hK
    obtain ⟨hz, hTI, ⟨x0, y0, hTO⟩, h1, h2⟩ := st
    obtain ⟨ys, c, y, hqy, hx, hy⟩ := hg
    obtain ⟨its2, rv2, p2, _⟩ := I.tuple hqy
    have hne : b ≠ i2 := hb.2.2.2.2
    have hh : X.A.in1.handled = none := I.ok.hd hc
    have W := GoesN.zip2 (elts := elts) (x1 := kk) (pos := tpos) S (Draws.text hh i1 x t) (Draws.tuple hh i2 b hne its2.toArray) (prog := X.prog) (w := X.w) (A := X.A)
    have hlen : i < min x.cps.size its2.toArray.size := by
      have a1 : i < x.cps.size := (Array.getElem?_eq_some_iff.mp hx).1
      have a2 : i < ys.length := (List.getElem?_eq_some_iff.mp hy).1
      have a3 := rv2.length
      have a4 : its2.toArray.size = its2.length := List.size_toArray ..
      omega
    refine W.goes i s _ _ hlen ⟨hz, hTI, ⟨x0, y0, hTO⟩, h1, h2, p2⟩ fun v h' tk hY st' hk htk => ?_
    obtain ⟨T, u1, u2, rfl, hT, ⟨c', tk', hc', rfl⟩, hu2, hTup⟩ := hY
    obtain ⟨z', TI', TO', h1', h2', p2'⟩ := st'
    have ec : c' = c := Option.some.inj (hc'.symm.trans hx)
    subst ec
    obtain ⟨v2, hv2, rv⟩ := rv2.get hy
    have e2 : u2 = v2 := by
      rw [List.getElem?_toArray] at hu2
      exact Option.some.inj (hu2.symm.trans hv2)
    subst e2
    have new : ObjOk X.prog X.w (upd H T (.tup [.str ⟨#[c']⟩, y])) h' T (.tup [.str ⟨#[c']⟩, y]) :=
      ⟨by show 2 ≤ sizeLine; decide, [.str ⟨#[c']⟩ tk', u2], .cons ⟨_, rfl⟩ (.cons rv .nil), hTup⟩
    have hf' : ∀ c ∈ [z, TO, i1, i2], FpOk X pins H c := fun c hcm => hf c (by simp at hcm ⊢; rcases hcm with q | q | q | q <;> simp [q])
    have I1 : Inv X pins σ (upd H T (.tup [.str ⟨#[c']⟩, y])) { s with heap := h', toks := tk } := I.turnedNew (t' := tk) (ch := [z, TO, i1, i2]) hk hf' hT new
    refine ⟨.ref T, _, I1, rfl, ⟨T, c', y, rfl, I.hok.fresh hT, rfl, hx, fun l hl => by rw [I.tuple_inj hl hqy]; exact hy⟩, ⟨z', TI', TO', h1', h2'⟩, fun d hd => ?_⟩
    have hlt : d < s.heap.objs.size := by
      have e' : d = z ∨ d = TI ∨ d = TO ∨ d = i1 ∨ d = i2 := by simpa using hd
      rcases e' with q | q | q | q | q
      · rw [q]; exact Heap.lt_size hz
      · rw [q]; exact Heap.lt_size hTI
      · rw [q]; exact Heap.lt_size hTO
      · rw [q]; obtain ⟨_, e1, _⟩ := h1; exact Heap.lt_size e1
      · rw [q]; obtain ⟨_, e2, _⟩ := h2; exact Heap.lt_size e2
    rw [upd_ne (Nat.ne_of_lt (Nat.lt_of_lt_of_le hlt hT))]
    exact (hf d hd).1
  done := by
    intro X hP hw hK hc i pins s σ H E I hf st hg
    subst hP hw hK
    obtain ⟨hz, hTI, ⟨x0, y0, hTO⟩, h1, h2⟩ := st
    obtain ⟨ys, hqy, hi⟩ := hg
    obtain ⟨its2, rv2, p2, _⟩ := I.tuple hqy
    have hne : b ≠ i2 := hb.2.2.2.2
    have hh : X.A.in1.handled = none := I.ok.hd hc
    have W := GoesN.zip2 (elts := elts) (x1 := kk) (pos := tpos) S (Draws.text hh i1 x t) (Draws.tuple hh i2 b hne its2.toArray) (prog := X.prog) (w := X.w) (A := X.A)
    have e : i = min x.cps.size its2.toArray.size := by
      have a4 : its2.toArray.size = its2.length := List.size_toArray ..
      rw [a4, ← rv2.length]
      exact hi
    subst e
    have hf' : ∀ c ∈ [z, TO, i1, i2], FpOk X pins H c := fun c hcm => hf c (by simp at hcm ⊢; rcases hcm with q | q | q | q <;> simp [q])
    exact W.stops s _ _ ⟨hz, hTI, ⟨x0, y0, hTO⟩, h1, h2, p2⟩ fun h' tk hk htk => I.turnedL (t' := tk) (ch := [z, TO, i1, i2]) hk hf'
  self := fun A i s Q E st h => wpAny_pyIter_zip st.1 h
def iZipS (K : PySem.W.Frag) (ta : TA) : TI := fun σ H R => ta σ H fun vs H1 => ∃ (x : PySem.Str) (b : Addr) (ys : List V), vs = [.str x, .ref b] ∧ SqT K H1 b ys ∧ R (ItzS K x b) H1
theorem pi_zipS {X : Cx} {e e2 : Expr} {ta : TA} {p pos tpos : Pos} {elts : List Expr} {kk : Nat} (hg : Gl X "zip") (hm : X.mg "zip" = none) (ha : PA X [e, e2] ta)
    (hs : starEach [e, e2] X.env = (false, eval e X.env) :: starEach [e2] X.env := by rfl) (hpl : (backTo pos (starEach [e2] X.env)).any (·.1) = false := by rfl) :
    PI X (.Tuple elts kk tpos) (.Call (.Name "zip" p) [e, e2] [] pos) (iZipS X.K ta) := by
  refine ⟨fun pins s σ H R I h => ?_⟩
  refine Call_ (ld_blt I hg hm PyProof.Rows.boot_zip (PyProof.Rows.callWith_type1 (thn (ha.run pos pins s σ H _ I h) fun us s1 ⟨vs, H1, I1, r1, q1⟩ => ?_) hs hpl))
  obtain ⟨x, b, ys, ex, hqy, q⟩ := q1
  subst ex
  cases r1 with
  | cons r rr =>
    cases rr with
    | cons r' rr =>
      cases rr
      obtain ⟨t, rfl⟩ := r
      cases r'
      have fresh5 : ∀ c, c ∈ [s1.heap.objs.size + 4, s1.heap.objs.size + 2, s1.heap.objs.size + 3, s1.heap.objs.size, s1.heap.objs.size + 1] → FpOk X pins H1 c := fun c hcm => by
        have e' : c = s1.heap.objs.size + 4 ∨ c = s1.heap.objs.size + 2 ∨ c = s1.heap.objs.size + 3 ∨ c = s1.heap.objs.size ∨ c = s1.heap.objs.size + 1 := by simpa using hcm
        have hle : s1.heap.objs.size ≤ c := by
          rcases e' with z | z | z | z | z
          · rw [z]; exact Nat.le_add_right _ _
          · rw [z]; exact Nat.le_add_right _ _
          · rw [z]; exact Nat.le_add_right _ _
          · rw [z]; exact Nat.le_refl _
          · rw [z]; exact Nat.le_add_right _ _
        exact I1.fpOk hle (I1.hok.fresh hle)
      obtain ⟨its2, rv2, p2, _⟩ := I1.tuple hqy
      obtain ⟨o2, ho2, _⟩ := id p2
      have hb : b < s1.heap.objs.size := Heap.lt_size ho2
      refine zip_begins2 (begins_text x t) (begins_tuple b its2.toArray) trivial p2 fun h' hz hTI hTO h1 h2 hsz hk => wpAny_pyIter_zip hz ?_
      have I2 : Inv X pins σ H1 { s1 with heap := h' } := I1.kept (t' := s1.toks) hk
      have S : ZipSep2 (s1.heap.objs.size + 4) (s1.heap.objs.size + 2) (s1.heap.objs.size + 3) s1.heap.objs.size (s1.heap.objs.size + 1) [s1.heap.objs.size] [s1.heap.objs.size + 1, b] :=
        zip_sep2 (fp1 := []) (fp2 := [b]) (fun c hc => by cases hc) (fun c hc => by
          have e : c = b := by simpa using hc
          rw [e]; exact hb)
      exact ⟨s1.heap.objs.size + 4, [s1.heap.objs.size + 4, s1.heap.objs.size + 2, s1.heap.objs.size + 3, s1.heap.objs.size, s1.heap.objs.size + 1], _, _, H1, rfl, I2,
        turn_zipS (t := t) ⟨Nat.ne_of_lt (Nat.lt_of_lt_of_le hb (Nat.le_add_right _ _)), Nat.ne_of_lt (Nat.lt_of_lt_of_le hb (Nat.le_add_right _ _)), Nat.ne_of_lt (Nat.lt_of_lt_of_le hb (Nat.le_add_right _ _)), Nat.ne_of_lt hb, Nat.ne_of_lt (Nat.lt_of_lt_of_le hb (Nat.le_add_right _ _))⟩ S,
        ⟨hz, hTI, ⟨_, _, hTO⟩, ⟨_, h1, rfl, rfl⟩, ⟨_, h2, rfl, rfl⟩⟩, fresh5, q⟩
end Rg
namespace Rg
open PySem PySem.Spec PyProof.Rows L2
/-- the dict's row, and what it has at the text -/
def KGot (K : PySem.W.Frag) (w : World) (a : Addr) (x : PySem.Str) (o : Option V) : Prop :=
  ∃ es n r, K.lookup a = some ⟨.type "dict", none, .dict es n, #[]⟩ ∧ PySem.W.KeysLit w.params es.toList ∧ (a == sysModules) = false ∧ PySem.W.nsIn K a x = some r ∧ RelV (o.getD .non) (r.getD .none)
def KIsD (K : PySem.W.Frag) (a : Addr) : Prop := ∃ es n, K.lookup a = some ⟨.type "dict", none, .dict es n, #[]⟩
def tKGet (K : PySem.W.Frag) (w : World) (td ty : TE) : TE := fun σ H Q => td σ H fun x H1 => ∃ a, x = .ref a ∧ KIsD K a ∧ ty σ H1 fun y H2 => ∃ z o, y = .str z ∧ KGot K w a z o ∧ Q (o.getD .non) H2
section
variable {X : Cx} {o e : Expr} {apos cpos : Pos} {td ty : TE}
theorem pe_kget (ho : PE X o td) (he : PE X e ty) (m : M1 X o "get" apos e cpos) : PE X (.Call (.Attribute o "get" apos) [e] [] cpos) (tKGet X.K X.w td ty) := by
  refine ⟨fun pins s σ H Q I h => ?_⟩
  refine wpAny_Call_method m.base m.few m.line PySem.F.plainAttrs_dict PySem.F.slot_dict_get PySem.F.type_dict_get (thn (ho.run pins s σ H _ I h) fun u s1 ⟨x, H1, I1, rx, a, ex, d, q1⟩ => ?_)
  subst ex
  obtain rfl : u = Value.ref a := rx
  obtain ⟨es, n, hl⟩ := d
  have hg := I1.kIn _ _ hl
  refine ⟨⟨_, hg, rfl⟩, fun b q => ?_, ?_⟩
  · cases q
    exact ⟨_, hg, rfl⟩
  rw [m.trees]
  refine Calls.callWith_builtin rfl (Calls.evalArgs_plain (Calls.spliced_cons (thn (he.run pins s1 σ H1 _ I1 q1) fun iv s2 ⟨y, H2, I2, ry, z, ov, ey, g, q2⟩ => Calls.spliced_nil ?_)))
  subst ey
  obtain ⟨t, rfl⟩ := (show ∃ t, iv = Value.str z t from ry)
  obtain ⟨es', n', r, hl', hk, low, hn, rr⟩ := g
  have hm := PySem.W.mapOf_K (prog := X.prog) (w := X.w) I2.kIn hl' hk
  refine call_meetsIn PySem.F.slot_dict_get hm.typeIs PySem.F.entry_dict_get (PySem.F.args_dict_get_2 _ _) (meets_dict_get (strKind X.prog X.w) a (strKind_is X.prog X.w z t) low) ⟨_, hm, ?_⟩
  rw [PySem.W.find_K hl' hn]
  exact ⟨_, H2, I2.tok _, rr, q2⟩
end
end Rg
namespace Rg
open PySem PySem.Spec PyProof.Rows L2
section
variable {prog : Program} {w : World} {A : Around} {E : Value → Shared → Prop} {s : Shared} {K : PySem.W.Frag} {x C f : Addr} {ox : Obj} {od : Option Obj}
theorem len_In {Q : Value → Shared → Prop} (X : K.In s.heap) (I : PySem.W.InstAt s.heap x ox C od) (hs : PySem.W.findIn K (.ref C) "__len__" = some (some (.ref f))) (hf : PySem.W.isFn K (.ref f) = true)
    (h : wpAny (model prog w) A.in1 (call (.ref f) [.ref x]) (PySem.W.LenBack Q) E s) : wpAny (model prog w) A (call (.builtin "len") [.ref x]) Q E s := by
  refine Calls.call_function_entry kind_len plain_len entry_len (args_len1 _) ?_
  unfold Builtin.«len»
  refine wpAny_bind (m := oneArg "len" _) (wpAny_pure ?_)
  refine wpAny_bind (m := callSpecial? (.ref x) (Str.ofString "__len__")) (PySem.W.special_fn X I hs (beq_iff_eq.mp hf) (wpAny_mono h (fun r s' hr => ?_) fun _ _ y => y))
  cases r <;> first | exact hr.elim | skip
  rename_i n u
  obtain ⟨⟨h0, h1⟩, hq⟩ := hr
  refine wpAny_bind (wpAny_holding (wpAny_pure ?_))
  refine wpAny_bind (wpAny_letGo ?_)
  show wpAny _ _ (if n < 0 then _ else _) _ _ _
  rw [if_neg (by omega)]
  show wpAny _ _ (if n ≥ 2 ^ 63 then _ else _) _ _ _
  rw [if_neg (by omega)]
  exact wpAny_bind (wpAny_mkInt (wpAny_pure ⟨_, rfl, hq⟩))
end
section
variable {X : Cx} {CX : CXT} {k : Nat} {f C : Addr} {fd : FuncData} {ps : List PySem.Str} {sp : Sp} {E : XK}
/-- len(o): what __len__ promises of [o] -/
def rLenO (C : Addr) (sp : Sp) (E : XK) : List V → Hp → VK → Prop := fun xs H Q => ∃ a dx fs, xs = [.ref a] ∧ H a = some (.ins C dx fs) ∧ sp [.ref a] H (fun v H2 => ∃ n : Int, v = .int n ∧ 0 ≤ n ∧ n < 2 ^ 63 ∧ Q (.int n) H2) E
theorem call_lenO (hm : Meth X.K C "__len__" f) (F : FnOk X.prog X.w X.K X.mg X.base CX k f fd ps sp) (hr : Room (k + 1) X.A) (hb : Binds X.K fd ps []) (hx : Passes CX X E) : CallR X (.builtin "len") (rLenO C sp E) := by
  intro pins s σ H xs us Q I r h
  obtain ⟨a, dx, fs, rfl, ea, q⟩ := h
  cases r with
  | cons r rr =>
    cases rr
    obtain rfl : _ = Value.ref a := r
    obtain ⟨mA, O, _, _, _, _⟩ := ins_get I.hok ea
    obtain ⟨od, J, _⟩ := O.look
    refine len_In I.kIn J hm.at_ hm.fn ?_
    have hl : ([Value.ref a] : List Value).length = ps.length := by
      have := F.len _ _ _ _ q
      exact this
    have hbt := hb s [.ref a] I.kIn (by rw [List.append_nil]; exact hl)
    rw [List.append_nil] at hbt
    refine wpAny_call (codeAny_mono (F.run X.A.in1 X.stack s H ⟨[.ref a], []⟩ [.ref a] [.ref a] _ E hr.in1 I.env0.in1 hbt (.cons rfl .nil) q) fun r s' hq => ?_)
    cases r with
    | error e => exact hx pins σ H s e s' I hq
    | ok fl =>
      cases fl with
      | ret u =>
        obtain ⟨v, H', I3, rv, n, ev, h0, h1, q3⟩ := I.after hq
        subst ev
        obtain ⟨t, rfl⟩ := (show ∃ t, u = Value.int n t from rv)
        exact ⟨⟨h0, h1⟩, V.int n, H', I3.tok _, ⟨_, rfl⟩, q3⟩
      | next => exact False.elim hq
      | brk => exact False.elim hq
      | cont => exact False.elim hq
end
end Rg
namespace Rg
open PySem PySem.Spec L2
/-- a def of the top that can be called by its name, by places -/
structure Cal (P : Program) (w : World) (K : PySem.W.Frag) (mg : Str → Option Value) (base : Heap) (x : Str) (k : Nat) (ps : List Str) (sp : Sp) : Prop where
  ex : ∃ (f : Addr) (fd : FuncData), mg x = some (.ref f) ∧ PySem.W.keepIn K (.ref f) = true ∧ Binds K fd ps [] ∧ FnOk P w K mg base CX0 k f fd ps sp
section
variable {X : Cx} {k : Nat} {ps : List Str} {sp : Sp} {x : Str} {p pos : Pos} {e : Expr} {es : List Expr} {t : TA}
theorem pe_cal (C : Cal X.prog X.w X.K X.mg X.base x k ps sp) (hr : Room k X.A) (hg : Gl X x) (ha : PA X (e :: es) t) (hdb : (x == ("__debug__" : Str)) = false := by decide)
    (he : starEach (e :: es) X.env = (false, eval e X.env) :: starEach es X.env := by rfl) (hpl : (backTo pos (starEach es X.env)).any (·.1) = false := by rfl) :
    PE X (.Call (.Name x p) (e :: es) [] pos) (tCall sp [] E0 t) := by
  obtain ⟨f, fd, hm, hk, hb, F⟩ := C.ex
  exact pe_call F hr hg hm hk hb .nil pass0 ha hdb he hpl
/-- a power of two written numbers -/
theorem pe_powc {i j v : Int} {a b : Nat} {p1 p2 : Pos} (hc : 0 ≤ j ∧ j ≤ 1000000 ∧ i.natAbs < 2 ^ 64) (hv : i ^ j.toNat = v) : PE X (.BinOp (.Constant (.int i) a p1) .Pow (.Constant (.int j) b p2) pos) (tC (.int v)) := by
  have h : PE X (.BinOp (.Constant (.int i) a p1) .Pow (.Constant (.int j) b p2) pos) (tOp (rI CPow fun i j => .int (i ^ j.toNat)) (tC (.int i)) (tC (.int j))) := pe_op op_pow pe_int pe_int
  refine ⟨fun pins s σ H Q I q => h.run pins s σ H Q I ⟨i, j, rfl, rfl, hc, ?_⟩⟩
  show Q (V.int (i ^ j.toNat)) H
  rw [hv]
  exact q
end
section
variable {t u : TS} {D : Ends} {σ : St} {H : Hp} {te ta tb : TE} {g : TG} {Q : VK} {c : TT} {i : Nat} {v : V}
theorem rd_seq (h : t { D with nx := u D } σ H) : tSeq t u D σ H := h
theorem rd_next (h : D.nx σ H) : tNext D σ H := h
theorem rd_asg (h : te σ H fun x H1 => g x σ H1 D.nx) : tAsg te g D σ H := h
theorem rd_name {R : St → Hp → Prop} (h : R (σ.set i (some v)) H) : gName i v σ H R := h
theorem rd_ret (h : te σ H D.rt) : tRet te D σ H := h
theorem rd_drop (h : te σ H fun _ H1 => D.nx σ H1) : tDrop te D σ H := h
theorem rd_ifs (h : c σ H fun b H1 => if b = true then t D σ H1 else u D σ H1) : tIfS c t u D σ H := h
theorem rd_var (e : σ[i]? = some (some v)) (h : Q v H) : tVar i σ H Q := ⟨v, e, h⟩
theorem rd_c (h : Q v H) : tC v σ H Q := h
theorem rd_op {r : R2} (h : ta σ H fun x H1 => tb σ H1 fun y H2 => r x y H2 Q) : tOp r ta tb σ H Q := h
theorem rd_un {r : V → Hp → VK → Prop} (h : ta σ H fun x H1 => r x H1 Q) : tUn r ta σ H Q := h
theorem rd_I0 {f : Int → Int → V} {a b : Int} (h : Q (f a b) H) : rI0 f (.int a) (.int b) H Q := ⟨a, b, rfl, rfl, h⟩
theorem rd_eq {x y : V} (hc : scal x y = true) (h : Q (.bl (decide (x = y))) H) : rEq x y H Q := ⟨hc, h⟩
theorem rd_ne {x y : V} (hc : scal x y = true) (h : Q (.bl (!decide (x = y))) H) : rNe x y H Q := ⟨hc, h⟩
theorem rd_test {te : TE} {R : Bool → Hp → Prop} (h : te σ H fun x H' => ∃ k, x = .bl k ∧ R k H') : tTest te σ H R := h
theorem rd_tB {te : TE} {R : Bool → Hp → Prop} (h : te σ H fun x H' => ∃ k, x = .bl k ∧ R k H') : tB te σ H R := h
theorem rd_not {R : Bool → Hp → Prop} (h : c σ H fun b H1 => R (!b) H1) : tNot c σ H R := h
theorem rd_and {c' : TT} {R : Bool → Hp → Prop} (h : c σ H fun b H1 => if b = true then c' σ H1 R else R false H1) : tAnd c c' σ H R := h
theorem rd_or {c' : TT} {R : Bool → Hp → Prop} (h : c σ H fun b H1 => if b = true then R true H1 else c' σ H1 R) : tOr c c' σ H R := h
theorem rd_andV (h : ta σ H fun x H1 => ∃ k, x = .bl k ∧ if k = true then tb σ H1 Q else Q (.bl false) H1) : tAndV ta tb σ H Q := h
theorem rd_orV (h : ta σ H fun x H1 => ∃ k, x = .bl k ∧ if k = true then Q (.bl true) H1 else tb σ H1 Q) : tOrV ta tb σ H Q := h
theorem rd_notV (h : ta σ H fun x H1 => ∃ k, x = .bl k ∧ Q (.bl (!k)) H1) : tNotV ta σ H Q := h
theorem rd_bl {R : Bool → Prop} {k : Bool} (h : R k) : ∃ k', V.bl k = .bl k' ∧ R k' := ⟨k, rfl, h⟩
theorem rd_chain {r r' : R2} {tc : TE} (h : ta σ H fun x H1 => tb σ H1 fun y H2 => r x y H2 fun z H3 => ∃ k, z = .bl k ∧ (if k = true then tc σ H3 fun w' H4 => r' y w' H4 Q else Q (.bl false) H3)) : tChain r r' ta tb tc σ H Q := h
theorem rd_nil {R : List V → Hp → Prop} (h : R [] H) : tNil σ H R := h
theorem rd_cons {tr : TA} {R : List V → Hp → Prop} (h : ta σ H fun x H1 => tr σ H1 fun xs H2 => R (x :: xs) H2) : tCons ta tr σ H R := h
theorem rd_call {sp : Sp} {dvs : List V} {E : XK} {tr : TA} (h : tr σ H fun vs H1 => sp (vs ++ dvs) H1 Q E) : tCall sp dvs E tr σ H Q := h
theorem rd_cb {r : List V → Hp → VK → Prop} {tr : TA} (h : tr σ H fun vs H1 => r vs H1 Q) : tCB r tr σ H Q := h
theorem rd_tup {tr : TA} (h : tr σ H fun xs H1 => xs.length ≤ sizeLine ∧ ∀ p, H1 p = none → Q (.ref p) (upd H1 p (.tup xs))) : tTup tr σ H Q := h
theorem rd_lst {tr : TA} (h : tr σ H fun xs H1 => xs.length ≤ sizeLine ∧ ∀ p, H1 p = none → Q (.ref p) (upd H1 p (.lst xs))) : tLst tr σ H Q := h
theorem rd_isN (h : ta σ H fun x H1 => Q (.bl (decide (x = .non))) H1) : tIsN ta σ H Q := h
end
theorem rd_ifd {p A B : Prop} [Decidable p] (h1 : p → A) (h2 : ¬ p → B) : if decide p = true then A else B := by
  by_cases h : p
  · rw [decide_eq_true h]
    exact iteT (h1 h)
  · rw [decide_eq_false h]
    exact iteF (h2 h)
theorem rd_ifT {p A B : Prop} [Decidable p] (h : p) (h1 : A) : if decide p = true then A else B := rd_ifd (fun _ => h1) (fun z => absurd h z)
theorem rd_ifF {p A B : Prop} [Decidable p] (h : ¬ p) (h1 : B) : if decide p = true then A else B := rd_ifd (fun z => absurd z h) (fun _ => h1)
theorem rd_ifI {a b : Int} {A B : Prop} (h1 : a = b → A) (h2 : a ≠ b → B) : if decide (V.int a = V.int b) = true then A else B := rd_ifd (fun h => h1 (by injection h)) (fun h => h2 fun e => h (by rw [e]))
theorem rd_ifIn {a b : Int} {A B : Prop} (h1 : a = b → B) (h2 : a ≠ b → A) : if (!decide (V.int a = V.int b)) = true then A else B := by
  by_cases h : a = b
  · subst h
    simpa using h1 rfl
  · have : ¬ V.int a = V.int b := fun e => h (by injection e)
    simpa [this] using h2 h
theorem rd_ifb {k : Bool} {A B : Prop} (h1 : k = true → A) (h2 : k = false → B) : if k = true then A else B := by
  cases k
  · exact iteF (h2 rfl)
  · exact iteT (h1 rfl)
theorem rd_ifbT {k : Bool} {A B : Prop} (h : k = true) (h1 : A) : if k = true then A else B := by
  subst h
  exact iteT h1
theorem rd_ifbF {k : Bool} {A B : Prop} (h : k = false) (h1 : B) : if k = true then A else B := by
  subst h
  exact iteF h1
theorem rd_ifn {k : Bool} {A B : Prop} (h1 : k = true → B) (h2 : k = false → A) : if (!k) = true then A else B := by
  cases k
  · exact iteT (h2 rfl)
  · exact iteF (h1 rfl)
/-- a display's place -/
theorem rd_new {n : Nat} {R : Prop} (h : Nat.ble n sizeLine = true) (q : R) : n ≤ sizeLine ∧ R := ⟨Nat.le_of_ble_eq_true h, q⟩
theorem same_upd {H : Hp} {p : Addr} {o : HO} (h : H p = none) : Same H (upd H p o) := fun b u e => by rw [upd_ne (ne_of_none e h)]; exact e
/-- tuples stay -/
def Tk (H H' : Hp) : Prop := ∀ b xs, H b = some (.tup xs) → H' b = some (.tup xs)
theorem Tk.refl (H : Hp) : Tk H H := fun _ _ h => h
theorem Tk.trans {H H1 H2 : Hp} (a : Tk H H1) (b : Tk H1 H2) : Tk H H2 := fun c o h => b c o (a c o h)
theorem Tk.of {H H' : Hp} (s : Same H H') : Tk H H' := fun c o h => s c _ h
theorem Tk.new {H : Hp} {p : Addr} {o : HO} (h : H p = none) : Tk H (upd H p o) := .of (same_upd h)
/-- a list is changed -/
theorem Tk.lst {H : Hp} {p : Addr} {xs : List V} {o : HO} (h : H p = some (.lst xs)) : Tk H (upd H p o) := fun b u e => by rw [upd_ne (ne_of e h (fun z => nomatch z))]; exact e
theorem Tk.ins {H : Hp} {p C dx : Addr} {fs : List (Str × V)} {o : HO} (h : H p = some (.ins C dx fs)) : Tk H (upd H p o) := fun b u e => by rw [upd_ne (ne_of e h (fun z => nomatch z))]; exact e
/-- all but two lists are kept -/
def Kp (t g : Addr) (H H' : Hp) : Prop := ∀ b o, H b = some o → b ≠ t → b ≠ g → H' b = some o
theorem Kp.refl (t g : Addr) (H : Hp) : Kp t g H H := fun _ _ h _ _ => h
theorem Kp.trans {t g : Addr} {H H1 H2 : Hp} (a : Kp t g H H1) (b : Kp t g H1 H2) : Kp t g H H2 := fun c o h n m => b c o (a c o h n m) n m
theorem Kp.of {t g : Addr} {H H' : Hp} (s : Same H H') : Kp t g H H' := fun c o h _ _ => s c o h
theorem Kp.new {t g : Addr} {H : Hp} {p : Addr} {o : HO} (h : H p = none) : Kp t g H (upd H p o) := .of (same_upd h)
theorem Kp.t {t g : Addr} {H : Hp} {o : HO} : Kp t g H (upd H t o) := fun b u e n _ => by rw [upd_ne n]; exact e
theorem Kp.g {t g : Addr} {H : Hp} {o : HO} : Kp t g H (upd H g o) := fun b u e _ n => by rw [upd_ne n]; exact e
/-- a place that was free, written again -/
theorem Kp.put {t g : Addr} {H H' : Hp} {p : Addr} {o : HO} (k : Kp t g H H') (h : H p = none) : Kp t g H (upd H' p o) := fun b u e n m => by rw [upd_ne (ne_of_none e h)]; exact k b u e n m
/-- the draws' tray: two lists; at most n mixed draws so far -/
structure Tray (H : Hp) (t g : Addr) (n : Nat) : Prop where
  ne : t ≠ g
  ex : ∃ (gs : List Int) (a f c : Int), H t = some (.lst [.ref g, .int a, .int f, .int c]) ∧ H g = some (.lst (gs.map V.int)) ∧ (∀ z ∈ gs, 0 ≤ z) ∧ 0 ≤ a ∧ 0 ≤ f ∧ f < 2305843009213693952 ∧ 0 ≤ c ∧ c ≤ (n : Int)
theorem Tray.mono {H : Hp} {t g : Addr} {n m : Nat} (T : Tray H t g n) (h : n ≤ m) : Tray H t g m := by
  obtain ⟨ne, gs, a, f, c, h1, h2, h3, h4, h5, h6, h7, h8⟩ := T
  exact ⟨ne, gs, a, f, c, h1, h2, h3, h4, h5, h6, h7, by omega⟩
theorem Tray.same {H H' : Hp} {t g : Addr} {n : Nat} (T : Tray H t g n) (s : Same H H') : Tray H' t g n := by
  obtain ⟨ne, gs, a, f, c, h1, h2, h3⟩ := T
  exact ⟨ne, gs, a, f, c, s _ _ h1, s _ _ h2, h3⟩
theorem Tray.new {H : Hp} {t g p : Addr} {n : Nat} {o : HO} (T : Tray H t g n) (h : H p = none) : Tray (upd H p o) t g n := T.same (same_upd h)
theorem Tray.put {H : Hp} {t g p : Addr} {n : Nat} {o : HO} (T : Tray H t g n) (h1 : p ≠ t) (h2 : p ≠ g) : Tray (upd H p o) t g n := by
  obtain ⟨ne, gs, a, f, c, e1, e2, h3⟩ := T
  exact ⟨ne, gs, a, f, c, by rw [upd_ne (Ne.symm h1)]; exact e1, by rw [upd_ne (Ne.symm h2)]; exact e2, h3⟩
theorem Tray.ht {H : Hp} {t g : Addr} {n : Nat} (T : Tray H t g n) : ∃ xs, H t = some (.lst xs) := by
  obtain ⟨_, _, _, _, _, e, _⟩ := T
  exact ⟨_, e⟩
theorem Tray.hg {H : Hp} {t g : Addr} {n : Nat} (T : Tray H t g n) : ∃ xs, H g = some (.lst xs) := by
  obtain ⟨_, _, _, _, _, _, e, _⟩ := T
  exact ⟨_, e⟩
/-- a place that was free is none of the tray's -/
theorem Tray.net {H : Hp} {t g p : Addr} {n : Nat} (T : Tray H t g n) (h : H p = none) : p ≠ t := by
  obtain ⟨_, e⟩ := T.ht
  exact Ne.symm (ne_of_none e h)
theorem Tray.neg {H : Hp} {t g p : Addr} {n : Nat} (T : Tray H t g n) (h : H p = none) : p ≠ g := by
  obtain ⟨_, e⟩ := T.hg
  exact Ne.symm (ne_of_none e h)
theorem Tray.netT {H : Hp} {t g p : Addr} {n : Nat} {xs : List V} (T : Tray H t g n) (h : H p = some (.tup xs)) : p ≠ t := by
  obtain ⟨_, e⟩ := T.ht
  exact ne_of h e (fun z => nomatch z)
theorem Tray.negT {H : Hp} {t g p : Addr} {n : Nat} {xs : List V} (T : Tray H t g n) (h : H p = some (.tup xs)) : p ≠ g := by
  obtain ⟨_, e⟩ := T.hg
  exact ne_of h e (fun z => nomatch z)
theorem Kp.tk {t g : Addr} {H H' : Hp} {n : Nat} (k : Kp t g H H') (T : Tray H t g n) : Tk H H' := fun b xs e => k b _ e (T.netT e) (T.negT e)
mutual
inductive Rp (H : Hp) : V → PyData → Prop
  | non : Rp H .non .none
  | bl (b : Bool) : Rp H (.bl b) (.bool b)
  | int (i : Int) : Rp H (.int i) (.int i)
  | str (x : Str) : Rp H (.str x) (.str x)
  | tup {a : Addr} {xs : List V} {ds : List PyData} : H a = some (.tup xs) → RpAll H xs ds → Rp H (.ref a) (.tuple ds)
inductive RpAll (H : Hp) : List V → List PyData → Prop
  | nil : RpAll H [] []
  | cons {v : V} {vs : List V} {d : PyData} {ds : List PyData} : Rp H v d → RpAll H vs ds → RpAll H (v :: vs) (d :: ds)
end
mutual
theorem Rp.keep {H H' : Hp} (k : Tk H H') : ∀ {d : PyData} {v : V}, Rp H v d → Rp H' v d
  | _, _, .non => .non
  | _, _, .bl b => .bl b
  | _, _, .int i => .int i
  | _, _, .str x => .str x
  | _, _, .tup e h => .tup (k _ _ e) (RpAll.keep k h)
theorem RpAll.keep {H H' : Hp} (k : Tk H H') : ∀ {ds : List PyData} {vs : List V}, RpAll H vs ds → RpAll H' vs ds
  | _, _, .nil => .nil
  | _, _, .cons h t => .cons (Rp.keep k h) (RpAll.keep k t)
end
mutual
theorem Rp.dp {K : PySem.W.Frag} {H : Hp} : ∀ {d : PyData} {v : V}, Rp H v d → Dp K H v d
  | _, _, .non => .non
  | _, _, .bl b => .bl b
  | _, _, .int i => .int i
  | _, _, .str x => .str x
  | _, _, .tup e h => .tup (SqT.of e) (RpAll.dp h)
theorem RpAll.dp {K : PySem.W.Frag} {H : Hp} : ∀ {ds : List PyData} {vs : List V}, RpAll H vs ds → DpAll K H vs ds
  | _, _, .nil => .nil
  | _, _, .cons h t => .cons (Rp.dp h) (RpAll.dp t)
end
theorem Rp.tup_inv {H : Hp} {v : V} {ds : List PyData} (h : Rp H v (.tuple ds)) : ∃ p xs, v = .ref p ∧ H p = some (.tup xs) ∧ RpAll H xs ds := by
  cases h with
  | tup e a => exact ⟨_, _, rfl, e, a⟩
theorem Rp.int_inv {H : Hp} {v : V} {i : Int} (h : Rp H v (.int i)) : v = .int i := by cases h; rfl
theorem Rp.str_inv {H : Hp} {v : V} {x : Str} (h : Rp H v (.str x)) : v = .str x := by cases h; rfl
theorem RpAll.nil_inv {H : Hp} {vs : List V} (h : RpAll H vs []) : vs = [] := by cases h; rfl
theorem RpAll.cons_inv {H : Hp} {vs : List V} {d : PyData} {ds : List PyData} (h : RpAll H vs (d :: ds)) : ∃ v r, vs = v :: r ∧ Rp H v d ∧ RpAll H r ds := by
  cases h with
  | cons a b => exact ⟨_, _, rfl, a, b⟩
theorem RpAll.length {H : Hp} : ∀ {ds : List PyData} {vs : List V}, RpAll H vs ds → vs.length = ds.length
  | _, _, .nil => rfl
  | _, _, .cons _ t => congrArg Nat.succ (RpAll.length t)
theorem RpAll.get {H : Hp} : ∀ {ds : List PyData} {vs : List V} {i : Nat} {v : V}, RpAll H vs ds → vs[i]? = some v → ∃ d, ds[i]? = some d ∧ Rp H v d
  | _, _, _, _, .nil, e => by simp at e
  | _, _, 0, _, .cons h _, e => by
    simp at e
    subst e
    exact ⟨_, rfl, h⟩
  | _, _, i + 1, _, .cons _ t, e => by
    obtain ⟨d, h1, h2⟩ := RpAll.get (i := i) t (by simpa using e)
    exact ⟨d, by simpa using h1, h2⟩
theorem RpAll.get2 {H : Hp} : ∀ {ds : List PyData} {vs : List V} {i : Nat} {d : PyData}, RpAll H vs ds → ds[i]? = some d → ∃ v, vs[i]? = some v ∧ Rp H v d
  | _, _, _, _, .nil, e => by simp at e
  | _, _, 0, _, .cons h _, e => by
    simp at e
    subst e
    exact ⟨_, rfl, h⟩
  | _, _, i + 1, _, .cons _ t, e => by
    obtain ⟨d, h1, h2⟩ := RpAll.get2 (i := i) t (by simpa using e)
    exact ⟨d, by simpa using h1, h2⟩
theorem RpAll.append {H : Hp} : ∀ {ds es : List PyData} {vs us : List V}, RpAll H vs ds → RpAll H us es → RpAll H (vs ++ us) (ds ++ es)
  | _, _, _, _, .nil, h => h
  | _, _, _, _, .cons a t, h => .cons a (RpAll.append t h)
theorem RpAll.ints {H : Hp} : ∀ (ns : List Int), RpAll H (ns.map V.int) (ns.map PyData.int)
  | [] => .nil
  | n :: ns => .cons (.int n) (RpAll.ints ns)
theorem RpAll.ints_inv {H : Hp} : ∀ {ns : List Int} {vs : List V}, RpAll H vs (ns.map PyData.int) → vs = ns.map V.int
  | [], _, h => h.nil_inv
  | n :: ns, _, h => by
    obtain ⟨v, r, rfl, h1, h2⟩ := RpAll.cons_inv h
    rw [h1.int_inv, RpAll.ints_inv h2]
    rfl
end Rg
namespace Rg
open PySem PySem.Spec L2
/-- built-in names that the top leaves alone -/
structure BT (mg : Str → Option Value) : Prop where
  g_len : mg "len" = none
  g_range : mg "range" = none
  g_isinstance : mg "isinstance" = none
  g_all : mg "all" = none
  g_max : mg "max" = none
  g_sorted : mg "sorted" = none
  g_tuple : mg "tuple" = none
  g_list : mg "list" = none
  g_int : mg "int" = none
  g_bool : mg "bool" = none
  g_str : mg "str" = none
  g_enumerate : mg "enumerate" = none
  g_zip : mg "zip" = none
  g_sum : mg "sum" = none
  g_min : mg "min" = none
  g_any : mg "any" = none
  g_abs : mg "abs" = none
/-- an int of the top -/
def GI (mg : Str → Option Value) (x : Str) (n : Int) : Prop := ∃ t, mg x = some (Value.int n t)
/-- a tuple of the top -/
def GTu (K : PySem.W.Frag) (mg : Str → Option Value) (x : Str) (xs : List V) : Prop := ∃ a, mg x = some (.ref a) ∧ ∀ H, SqT K H a xs
def tGt (K : PySem.W.Frag) (xs : List V) : TE := fun _ H Q => ∀ a, (∀ H, SqT K H a xs) → Q (.ref a) H
section
variable {X : Cx} {x : Str} {pos : Pos}
theorem pe_gi {n : Int} (h : GI X.mg x n) (hg : Gl X x) (hd : (x == ("__debug__" : Str)) = false := by decide) : PE X (.Name x pos) (tC (.int n)) := by
  obtain ⟨t, e⟩ := h
  exact pe_glob hg e ⟨t, rfl⟩ hd
theorem pe_gt {xs : List V} (h : GTu X.K X.mg x xs) (hg : Gl X x) (hd : (x == ("__debug__" : Str)) = false := by decide) : PE X (.Name x pos) (tGt X.K xs) := by
  obtain ⟨a, e, q⟩ := h
  have p : PE X (.Name x pos) (tC (.ref a)) := pe_glob hg e rfl hd
  exact ⟨fun pins s σ H Q I hw => p.run pins s σ H Q I (hw a q)⟩
end
section
variable {σ : L2.St} {H : Hp} {Q : VK} {K : PySem.W.Frag}
theorem rd_ixL {p : Addr} {xs : List V} {i : Int} {v : V} (h : H p = some (.lst xs)) (e : atI xs i = some v) (q : Q v H) : rIxL K (.ref p) (.int i) H Q := ⟨p, xs, i, v, rfl, rfl, SqL.of h, e, q⟩
theorem rd_ixT {p : Addr} {xs : List V} {i : Int} {v : V} (h : H p = some (.tup xs)) (e : atI xs i = some v) (q : Q v H) : rIxT K (.ref p) (.int i) H Q := ⟨p, xs, i, v, rfl, rfl, SqT.of h, e, q⟩
theorem rd_isi {x c : V} {t u : Value} {b : Bool} (h1 : ClsV c u) (h2 : TyX K H x t) (h3 : PySem.W.kitOne K t u = some b) (q : Q (.bl b) H) : rIsi K [x, c] H Q := ⟨x, c, t, u, b, rfl, h1, h2, h3, q⟩
end
section
variable {σ : L2.St} {H : Hp} {Q : VK} {K : PySem.W.Frag} {D : Ends}
theorem rd_mod {a b : Int} (hc : 0 < b) (h : Q (.int (a % b)) H) : rI (fun _ j => 0 < j) (fun i j => .int (i % j)) (.int a) (.int b) H Q := ⟨a, b, rfl, rfl, hc, h⟩
theorem rd_mul {a b : Int} (hc : CMul a b) (h : Q (.int (a * b)) H) : rI CMul (fun i j => .int (i * j)) (.int a) (.int b) H Q := ⟨a, b, rfl, rfl, hc, h⟩
theorem rd_fdivW {a b : Int} (hc : CDivW a b) (h : Q (.int (a / b)) H) : rI CDivW (fun i j => .int (i / j)) (.int a) (.int b) H Q := ⟨a, b, rfl, rfl, hc, h⟩
theorem rd_pow {a b : Int} (hc : CPow a b) (h : Q (.int (a ^ b.toNat)) H) : rI CPow (fun i j => .int (i ^ j.toNat)) (.int a) (.int b) H Q := ⟨a, b, rfl, rfl, hc, h⟩
theorem rd_neD {x y : V} {d e : PyData} (h1 : Dp K H x d) (h2 : Dp K H y e) (s1 : SeqAt.shaped d = true) (s2 : SeqAt.shaped e = true) (h : Q (.bl (!PyData.eqv d e)) H) : rNeD K x y H Q := ⟨d, e, h1, h2, s1, s2, h⟩
theorem rd_eqD {x y : V} {d e : PyData} (h1 : Dp K H x d) (h2 : Dp K H y e) (s1 : SeqAt.shaped d = true) (s2 : SeqAt.shaped e = true) (h : Q (.bl (PyData.eqv d e)) H) : rEqD K x y H Q := ⟨d, e, h1, h2, s1, s2, h⟩
theorem rd_bm {T : String} {r : V → List V → Hp → VK → Prop} {to : TE} {t : TA} (h : to σ H fun x H1 => tyV K T x H1 ∧ t σ H1 fun xs H2 => r x xs H2 Q) : tBM K T r to t σ H Q := h
theorem rd_bm0 {T : String} {r : V → List V → Hp → VK → Prop} {to : TE} (h : to σ H fun x H1 => tyV K T x H1 ∧ r x [] H1 Q) : tBM0 K T r to σ H Q := h
/-- a list's method -/
theorem rd_tyL {p : Addr} {xs : List V} {R : Prop} (h : H p = some (.lst xs)) (q : R) : tyV K "list" (.ref p) H ∧ R := ⟨.inl ⟨rfl, xs, SqL.of h⟩, q⟩
theorem rd_append {p : Addr} {xs : List V} {y : V} (h : H p = some (.lst xs)) (hl : xs.length < sizeLine) (q : Q .non (upd H p (.lst (xs ++ [y])))) : rAppend (.ref p) [y] H Q := ⟨p, xs, y, rfl, rfl, h, hl, q⟩
theorem rd_pop0 {p : Addr} {x : V} {xs : List V} (h : H p = some (.lst (x :: xs))) (q : Q x (upd H p (.lst xs))) : rPopAt (.ref p) [.int 0] H Q := ⟨p, x :: xs, 0, 0, x, rfl, rfl, h, by decide, by decide, by simp [seqIndex?], rfl, q⟩
theorem rd_gsub {to ti : TE} {t : TSet} {v : V} {R : L2.St → Hp → Prop} (h : to σ H fun o H1 => ti σ H1 fun i H2 => t o i v H2 fun H3 => R σ H3) : gSub to ti t v σ H R := h
theorem rd_setL {p : Addr} {xs : List V} {k : Int} {j : Nat} {v : V} {R : Hp → Prop} (h : H p = some (.lst xs)) (e : ixN xs.length k = some j) (q : R (upd H p (.lst (xs.set j v)))) : rSetL (.ref p) (.int k) v H R := ⟨p, xs, k, j, rfl, rfl, h, e, q⟩
theorem rd_sl {r : V → Option Int → Option Int → Hp → VK → Prop} {te : TE} {tl th : TO} (h : te σ H fun x H1 => tl σ H1 fun l H2 => th σ H2 fun u H3 => r x l u H3 Q) : tSl r te tl th σ H Q := h
theorem rd_gt {xs : List V} (h : ∀ a, (∀ H, SqT K H a xs) → Q (.ref a) H) : tGt K xs σ H Q := h
theorem rd_yes {R : Bool → Hp → Prop} (h : R true H) : tYes σ H R := h
end
theorem while_inv {c : TT} {tb : TS} {D : Ends} {σ : L2.St} {H : Hp} (W : Nat → L2.St → Hp → Prop) (h0 : ∃ m, W m σ H) (hx : ∀ m σ H, W m σ H → D.nx σ H)
    (hs : ∀ B : L2.St → Hp → Prop, (∀ m σ H, W m σ H → B σ H) → ∀ m σ H, W m σ H → c σ H fun b H1 => if b = true then ∃ N : L2.St → Hp → Prop, (∀ σ' H', N σ' H' → ∃ m', m' < m ∧ W m' σ' H') ∧ tb { nx := N, ct := N, bk := B, rt := D.rt } σ H1 else B σ H1) :
    tWhile c tb D σ H := ⟨W, h0, hs D.nx hx⟩
section
variable {J : It} {n : Nat} {G : Hp → Prop} {Y : Nat → Hp → V → Hp → Prop}
/-- a for without break -/
theorem for_inv (w : Walk J n G Y) {g : TG} {tb : TS} {Nx : L2.St → Hp → Prop} {rt : VK} {σ : L2.St} {H : Hp} (Pv : Nat → L2.St → Hp → Prop) (h0 : Pv 0 σ H) (hG : ∀ i σ H, i ≤ n → Pv i σ H → G H)
    (hs : ∀ (B : L2.St → Hp → Prop) i x σ H H', i < n → Pv i σ H → Y i H x H' → g x σ H' fun σ2 H2 => tb { nx := Pv (i + 1), rt := rt, bk := B, ct := Pv (i + 1) } σ2 H2) (hd : ∀ σ H, Pv n σ H → Nx σ H) :
    ∃ W : Nat → Nat → L2.St → Hp → Prop, (∃ m, W 0 m σ H) ∧ ∀ i m σ H, W i m σ H →
      (J.stop i H ∧ Nx σ H) ∨ (J.go i H ∧ ∃ N : L2.St → Hp → Prop, (∀ σ' H', N σ' H' → ∃ m', m' < m ∧ W (i + 1) m' σ' H') ∧ ∀ x H', J.yld i H x H' → g x σ H' fun σ2 H2 => tb { nx := N, rt := rt, bk := Nx, ct := N } σ2 H2) :=
  for_it w (D := ⟨Nx, rt, fun _ _ => False, fun _ _ => False⟩) Pv h0 hG (fun i x σ H H' hi p y => hs Nx i x σ H H' hi p y) hd
end
theorem rd_for {wi : TI} {g : TG} {tb : TS} {D : Ends} {σ : L2.St} {H : Hp} (h : wi σ H fun J H1 => ∃ W : Nat → Nat → L2.St → Hp → Prop, (∃ m, W 0 m σ H1) ∧ ∀ i m σ H, W i m σ H →
  (J.stop i H ∧ D.nx σ H) ∨ (J.go i H ∧ ∃ N : L2.St → Hp → Prop, (∀ σ' H', N σ' H' → ∃ m', m' < m ∧ W (i + 1) m' σ' H') ∧ ∀ x H', J.yld i H x H' → g x σ H' fun σ2 H2 => tb { D with nx := N, ct := N, bk := D.nx } σ2 H2)) : tFor wi g tb D σ H := h
theorem rd_ilist {K : PySem.W.Frag} {tl : TE} {σ : L2.St} {H : Hp} {R : It → Hp → Prop} (h : tl σ H fun x H1 => ∃ a, x = .ref a ∧ (∃ xs, SqL K H1 a xs) ∧ R (Itl K a) H1) : iList K tl σ H R := h
theorem rd_itup {K : PySem.W.Frag} {tl : TE} {σ : L2.St} {H : Hp} {R : It → Hp → Prop} (h : tl σ H fun x H1 => ∃ a, x = .ref a ∧ (∃ xs, SqT K H1 a xs) ∧ R (Itt K a) H1) : iTup K tl σ H R := h
theorem rd_irng {ta : TA} {σ : L2.St} {H : Hp} {R : It → Hp → Prop} (h : ta σ H fun vs H1 => ∃ j : Int, vs = [.int j] ∧ -(2 ^ 62) ≤ j ∧ j < 2 ^ 62 ∧ R (Itr 0 j.toNat) H1) : iRng1 ta σ H R := h
/-- a comprehension -/
theorem rd_lc {wi : TI} {g : TG} {tt : TT} {te : TE} {vs : List Nat} {σ : L2.St} {H : Hp} {Q : VK} (h : wi σ H fun J H1 => ∀ D, H1 D = none → ∃ W : Nat → Nat → Hp → Prop, (∃ m, W 0 m (upd H1 D (.lst []))) ∧ ∀ i m H, W i m H →
  (J.stop i H ∧ Q (.ref D) H) ∨ (J.go i H ∧ ∃ Nx : Hp → Prop, (∀ H', Nx H' → ∃ m', m' < m ∧ W (i + 1) m' H') ∧ ∀ x H', J.yld i H x H' → g x (wipe σ vs) H' fun σ2 H2 => wipe σ2 vs = wipe σ vs ∧ tt σ2 H2 fun b H3 =>
    if b = true then te σ2 H3 fun y H4 => ∃ acc, H4 D = some (.lst acc) ∧ acc.length < sizeLine ∧ Nx (upd H4 D (.lst (acc ++ [y]))) else Nx H3)) : tLc wi g tt te vs σ H Q := h
/-- shaped data: no dict, no depth above 64 -/
theorem shaped_ints (gs : List Int) : SeqAt.shaped (.list (gs.map .int)) = true := by
  have h1 : ∀ gs : List Int, PyData.canLayAll0 (gs.map .int) = true := fun gs => by
    induction gs with
    | nil => rfl
    | cons a r ih => simpa [PyData.canLayAll0, PyData.canLay0] using ih
  have h2 : ∀ gs : List Int, PyData.depthAll (gs.map .int) = 0 := fun gs => by
    induction gs with
    | nil => rfl
    | cons a r ih =>
      show max (PyData.depth (.int a)) (PyData.depthAll (r.map .int)) = 0
      rw [ih]
      rfl
  unfold SeqAt.shaped
  rw [show PyData.canLay0 (.list (gs.map .int)) = PyData.canLayAll0 (gs.map .int) from rfl, h1, show PyData.depth (.list (gs.map .int)) = PyData.depthAll (gs.map .int) + 1 from rfl, h2]
  rfl
theorem rd_notInT {K : PySem.W.Frag} {H : Hp} {Q : VK} {x : V} {p : Addr} {xs : List V} (h : SqT K H p xs) (f1 : flatV x = true) (f2 : xs.all flatV = true) (q : Q (.bl (!inV x xs)) H) : rIn K true x (.ref p) H Q := ⟨p, xs, rfl, .inr h, f1, f2, q⟩
theorem rd_ifS {a b : Str} {A B : Prop} (h1 : a = b → A) (h2 : a ≠ b → B) : if decide (V.str a = V.str b) = true then A else B := rd_ifd (fun h => h1 (by injection h)) (fun h => h2 fun e => h (by rw [e]))
end Rg
namespace Rg
open PySem PySem.Spec L2
inductive Wd where
  | num (n : Int)
  | ptr (r s p : Int)
def Wd.d : Wd → PyData
  | .num n => .tuple [.str "num", .int n]
  | .ptr r s p => .tuple [.str "ptr", .int r, .int s, .int p]
structure Rw where
  op : Str
  ns : List Int
def Rw.d (r : Rw) : PyData := .tuple (.str r.op :: r.ns.map .int)
structure Sg where
  r1 : Int
  r2 : Int
  r3 : Int
  ri : Str
  ga : Int
  ws : List Wd
  rs : List Rw
def Sg.d (s : Sg) : PyData := .tuple [.tuple [.int s.r1, .int s.r2, .int s.r3], .str s.ri, .int s.ga, .tuple (s.ws.map Wd.d), .tuple (s.rs.map Rw.d)]
def rowForms : List (Str × Str) := [("set", "n"), ("add", "n"), ("load", "pn"), ("store", "pn"), ("fetch", "ppn"), ("keep", "ppn"), ("aim", "psn"), ("move", "ppn"), ("zero", "n"), ("go", "n"), ("call", "p"), ("return", "")]
def formOf (w : Str) : Option Str := rowForms.lookup w
def below (n b : Int) : Bool := decide (0 ≤ n) && decide (n < b)
theorem below_of {n b : Int} (h1 : 0 ≤ n) (h2 : n < b) : below n b = true := by unfold below; rw [decide_eq_true h1, decide_eq_true h2]; rfl
theorem below_iff {n b : Int} : below n b = true ↔ 0 ≤ n ∧ n < b := by unfold below; simp
def numFits (c : Nat) (n m : Int) : Bool := if c = 112 then below n 4 else if c = 115 then below n m else true
def fitsNs : List Nat → List Int → Int → Bool
  | c :: cs, n :: ns, m => numFits c n m && fitsNs cs ns m
  | _, _, _ => true
def RwForm (r : Rw) : Prop := ∃ l, formOf r.op = some l ∧ l.cps.size = r.ns.length
def rowFits (r : Rw) (m : Int) : Bool := match formOf r.op with
  | some l => fitsNs l.cps.toList r.ns m
  | none => false
def wdFits : Wd → Int → Int → Bool
  | .num n, b, _ => below n b
  | .ptr r s p, _, m => below r 8 && (below s m && decide (0 ≤ p))
def rightsL : List Str := ["", "r", "w", "x", "rw", "rx", "wx", "rwx"]
def riFits (x : Str) : Bool := inV (.str x) (rightsL.map V.str)
def brFits (a b c : Int) : Bool := below a 8 && (below b 8 && (below c 8 && (decide (a ≤ b) && decide (b ≤ c))))
def sgFits (s : Sg) (b m : Int) : Bool := brFits s.r1 s.r2 s.r3 && (riFits s.ri && (below s.ga (s.rs.length + 1) && (decide (s.ws.length ≤ 16) && (decide (s.rs.length ≤ 24) && (s.ws.all (wdFits · b m) && s.rs.all (rowFits · m))))))
def GenL (t g D : Addr) (H1 : Hp) (n0 c : Nat) (Pd : PyData → Prop) (i : Nat) (H' : Hp) : Prop :=
  ∃ (vs : List V) (ds : List PyData), H' D = some (.lst vs) ∧ RpAll H' vs ds ∧ ds.length = i ∧ (∀ d ∈ ds, Pd d) ∧ Tray H' t g (n0 + c * i) ∧ Kp t g H1 H'
theorem GenL.start {t g D : Addr} {H1 : Hp} {n0 c : Nat} {Pd : PyData → Prop} (T : Tray H1 t g n0) (hD : H1 D = none) : GenL t g D H1 n0 c Pd 0 (upd H1 D (.lst [])) :=
  ⟨[], [], upd_same, .nil, rfl, fun _ h => (nomatch h), (T.new hD).mono (by omega), Kp.new hD⟩
theorem GenL.step {t g D : Addr} {H1 H2 H4 : Hp} {n0 c i n : Nat} {Pd : PyData → Prop} {y : V} {d : PyData} (h : GenL t g D H1 n0 c Pd i H2) (T1 : Tray H1 t g n0) (hD : H1 D = none) (hi : i ≤ 1000) (T : Tray H4 t g n) (hn : n ≤ n0 + c * i + c) (k : Kp t g H2 H4) (r : Rp H4 y d) (p : Pd d) :
    ∃ acc, H4 D = some (.lst acc) ∧ acc.length < sizeLine ∧ GenL t g D H1 n0 c Pd (i + 1) (upd H4 D (.lst (acc ++ [y]))) := by
  obtain ⟨vs, ds, e, ra, hl, hp, T2, k2⟩ := h
  have e4 : H4 D = some (.lst vs) := k D _ e (T1.net hD) (T1.neg hD)
  have tk : Tk H2 (upd H4 D (.lst (vs ++ [y]))) := (k.tk T2).trans (Tk.lst e4)
  refine ⟨vs, e4, by rw [ra.length, hl]; exact small1000 hi, vs ++ [y], ds ++ [d], upd_same, (ra.keep tk).append (.cons (r.keep (Tk.lst e4)) .nil), by simp [hl], fun z hz => ?_, (T.put (T1.net hD) (T1.neg hD)).mono (by rw [Nat.mul_succ]; omega), (k2.trans k).put hD⟩
  rcases List.mem_append.mp hz with q | q
  · exact hp z q
  · rw [List.mem_singleton.mp q]
    exact p
def SgForm (s : Sg) : Prop := ∀ r ∈ s.rs, RwForm r
def CompL {β : Type} (D : Addr) (H1 : Hp) (xs : List β) (f : β → V) (i : Nat) (H' : Hp) : Prop := H' D = some (.lst ((xs.take i).map f)) ∧ Same H1 H'
theorem CompL.start {β : Type} {D : Addr} {H1 : Hp} {xs : List β} {f : β → V} (hD : H1 D = none) : CompL D H1 xs f 0 (upd H1 D (.lst [])) := ⟨upd_same, same_upd hD⟩
theorem take_snoc {β : Type} {xs : List β} {i : Nat} {b : β} (h : xs[i]? = some b) : xs.take (i + 1) = xs.take i ++ [b] := by
  rw [List.take_add_one, h]
  rfl
theorem CompL.step {β : Type} {D : Addr} {H1 H2 H4 : Hp} {xs : List β} {f : β → V} {i : Nat} {b : β} {y : V} (h : CompL D H1 xs f i H2) (hD : H1 D = none) (hi : i ≤ 1000) (hb : xs[i]? = some b) (k : Same H2 H4) (e : y = f b) :
    ∃ acc, H4 D = some (.lst acc) ∧ acc.length < sizeLine ∧ CompL D H1 xs f (i + 1) (upd H4 D (.lst (acc ++ [y]))) := by
  obtain ⟨h1, s1⟩ := h
  refine ⟨_, k _ _ h1, ?_, ?_, fun c o q => ?_⟩
  · rw [List.length_map, List.length_take]
    exact small1000 (by omega)
  · rw [upd_same, take_snoc hb, List.map_append, e]
    rfl
  · rw [upd_ne (ne_of_none q hD)]
    exact k _ _ (s1 _ _ q)
theorem CompL.end {β : Type} {D : Addr} {H1 H2 : Hp} {xs : List β} {f : β → V} {n : Nat} (h : CompL D H1 xs f n H2) (hn : n = xs.length) : H2 D = some (.lst (xs.map f)) := by
  subst hn
  have := h.1
  rwa [List.take_length] at this
/-- all([..]) of truths -/
theorem rd_all {β : Type} {K : PySem.W.Frag} {H : Hp} {Q : VK} {D : Addr} {xs : List β} {f : β → Bool} (h : H D = some (.lst (xs.map fun x => V.bl (f x)))) (q : Q (.bl (xs.all f)) H) : rAll K [.ref D] H Q := by
  refine ⟨D, xs.map f, rfl, SqL.of ?_, ?_⟩
  · rw [h, List.map_map]
    rfl
  · rw [List.all_map]
    exact q
theorem fits_zip : ∀ (cs : List Nat) (ns : List Int) (m : Int), (cs.zip ns).all (fun p => numFits p.1 p.2 m) = fitsNs cs ns m
  | [], _, _ => by unfold fitsNs; rfl
  | _ :: _, [], _ => rfl
  | c :: cs, n :: ns, m => by
    rw [List.zip_cons_cons, List.all_cons, fits_zip cs ns m]
    rfl
/-- zip(text, tuple) -/
theorem walk_zipS {K : PySem.W.Frag} {x : Str} {b : Addr} {ys : List V} {n : Nat} (hn : n = min x.cps.size ys.length) : Walk (ItzS K x b) n (fun H => SqT K H b ys) (YPair (fun i => (x.cps[i]?).map fun c => V.str ⟨#[c]⟩) (fun i => ys[i]?)) := by
  subst hn
  refine ⟨fun i H hi q => ?_, fun H q => ⟨ys, q, rfl⟩, fun i H v H' hi q y => ?_⟩
  · have h1 : i < x.cps.size := by omega
    have h2 : i < ys.length := by omega
    exact ⟨ys, x.cps[i], ys[i], q, by simp [h1], by simp [h2]⟩
  · obtain ⟨T, c, z, h1, h2, h3, h4, h5⟩ := y
    exact ⟨T, _, z, h1, h2, h3, by show (x.cps[i]?).map _ = _; rw [h4]; rfl, h5 ys q⟩
theorem rd_ifnT {A B : Prop} (h : B) : if (!true) = true then A else B := iteF h
theorem rd_ifnF {A B : Prop} (h : A) : if (!false) = true then A else B := iteT h
section
variable {σ : L2.St} {H : Hp} {Q : VK} {K : PySem.W.Frag} {R : L2.St → Hp → Prop}
theorem rd_izipS {ta : TA} {R : It → Hp → Prop} (h : ta σ H fun vs H1 => ∃ (x : PySem.Str) (b : Addr) (ys : List V), vs = [.str x, .ref b] ∧ SqT K H1 b ys ∧ R (ItzS K x b) H1) : iZipS K ta σ H R := h
theorem rd_ienum {ta : TA} {R : It → Hp → Prop} (h : ta σ H fun vs H1 => ∃ a xs, vs = [.ref a] ∧ SqL K H1 a xs ∧ R (Ite K a) H1) : iEnum K ta σ H R := h
theorem rd_ixT0 {p : Addr} {x : V} {xs : List V} (h : H p = some (.tup (x :: xs))) (q : Q x H) : rIxT K (.ref p) (.int 0) H Q := ⟨p, x :: xs, 0, x, rfl, rfl, SqT.of h, atI_nat (j := 0) rfl, q⟩
theorem rd_gtup {n : Nat} {t : TGs} {a : Addr} {xs : List V} (h : H a = some (.tup xs)) (hl : xs.length = n) (q : t xs σ H R) : gTup K n t (.ref a) σ H R := ⟨a, xs, rfl, SqT.of h, hl, q⟩
theorem rd_gcons {t : TG} {u : TGs} {v : V} {r : List V} (q : t v σ H fun σ' H' => u r σ' H' R) : gCons t u (v :: r) σ H R := ⟨v, r, rfl, q⟩
theorem rd_gnil (q : R σ H) : gNil [] σ H R := ⟨rfl, q⟩
theorem rd_part {te : TE} {S : Option Int → Hp → Prop} (h : te σ H fun x H1 => ∃ i, x = .int i ∧ S (some i) H1) : tPart te σ H S := h
theorem rd_nopart {S : Option Int → Hp → Prop} (h : S none H) : tNoPart σ H S := h
theorem rd_cut1 {p : Addr} {x : V} {xs : List V} (h : H p = some (.tup (x :: xs))) (q : ∀ p', H p' = none → Q (.ref p') (upd H p' (.tup xs))) : rSlT K (.ref p) (some 1) none H Q := by
  refine ⟨p, x :: xs, rfl, SqT.of h, ?_, fun p' hp' => ?_⟩
  · rintro ⟨h1, _⟩
    simp [HT.sIx] at h1
  · have e : cutV (x :: xs) (some 1) none = xs := by
      unfold cutV
      simp [HT.sIx]
    rw [e]
    exact q p' hp'
end
/-- ROW_FORMS -/
def GFo (K : PySem.W.Frag) (w : World) (mg : Str → Option Value) : Prop := ∃ a, mg "ROW_FORMS" = some (.ref a) ∧ KIsD K a ∧ ∀ z l, formOf z = some l → KGot K w a z (some (.str l))
def tFo (K : PySem.W.Frag) (w : World) : TE := fun _ H Q => ∀ a, KIsD K a → (∀ z l, formOf z = some l → KGot K w a z (some (.str l))) → Q (.ref a) H
theorem pe_fo {X : Cx} {pos : Pos} (h : GFo X.K X.w X.mg) (hg : Gl X "ROW_FORMS") : PE X (.Name "ROW_FORMS" pos) (tFo X.K X.w) := by
  obtain ⟨a, e, q1, q2⟩ := h
  have p : PE X (.Name "ROW_FORMS" pos) (tC (.ref a)) := pe_glob hg e rfl
  exact ⟨fun pins s σ H Q I hw => p.run pins s σ H Q I (hw a q1 q2)⟩
theorem rd_fo {K : PySem.W.Frag} {w : World} {ty : TE} {σ : L2.St} {H : Hp} {Q : VK} (h : ty σ H fun y H2 => ∃ z l, y = .str z ∧ formOf z = some l ∧ Q (.str l) H2)
    (mono : ∀ R R' : VK, (∀ v H, R v H → R' v H) → ty σ H R → ty σ H R') : tKGet K w (tFo K w) ty σ H Q := fun a k1 k2 => by
  refine ⟨a, rfl, k1, mono _ _ (fun v H2 q => ?_) h⟩
  obtain ⟨z, l, e1, e2, q⟩ := q
  exact ⟨z, some (.str l), e1, k2 z l e2, q⟩
theorem form_len {l : Str} {w : Str} (h : formOf w = some l) : l.length ≤ 3 := by
  have : ∀ p ∈ rowForms, p.2.length ≤ 3 := by decide +kernel
  have hm : (w, l) ∈ rowForms := by
    have e : rowForms.lookup w = some l := h
    have : ∀ (L : List (Str × Str)) w l, L.lookup w = some l → (w, l) ∈ L := by
      intro L
      induction L with
      | nil => intro w l e; cases e
      | cons p L ih =>
        intro w l e
        rw [List.lookup_cons] at e
        by_cases hw : (w == p.1) = true
        · rw [hw] at e
          simp at e
          have : w = p.1 := by simpa using hw
          subst this
          subst e
          exact List.mem_cons_self ..
        · simp only [hw] at e
          exact List.mem_cons_of_mem _ (ih w l e)
    exact this _ w l e
  exact this _ hm
theorem DpAll.length {K : PySem.W.Frag} {H : Hp} : ∀ {ds : List PyData} {vs : List V}, DpAll K H vs ds → vs.length = ds.length
  | _, _, .nil => rfl
  | _, _, .cons _ t => congrArg Nat.succ (DpAll.length t)
theorem DpAll.get2 {K : PySem.W.Frag} {H : Hp} : ∀ {ds : List PyData} {vs : List V} {i : Nat} {d : PyData}, DpAll K H vs ds → ds[i]? = some d → ∃ v, vs[i]? = some v ∧ Dp K H v d
  | _, _, _, _, .nil, e => by simp at e
  | _, _, 0, _, .cons h _, e => by
    simp at e
    subst e
    exact ⟨_, rfl, h⟩
  | _, _, i + 1, _, .cons _ t, e => by
    obtain ⟨d, h1, h2⟩ := DpAll.get2 (i := i) t (by simpa using e)
    exact ⟨d, by simpa using h1, h2⟩
theorem Dp.tup_inv {K : PySem.W.Frag} {H : Hp} {v : V} {ds : List PyData} (h : Dp K H v (.tuple ds)) : ∃ a xs, v = .ref a ∧ SqT K H a xs ∧ DpAll K H xs ds := by
  cases h with
  | tup a b => exact ⟨_, _, rfl, a, b⟩
/-- data of at most so many levels, no dict, no list above a million -/
def okN : Nat → PyData → Prop
  | 0, _ => False
  | _ + 1, .none => True
  | _ + 1, .bool _ => True
  | _ + 1, .int _ => True
  | _ + 1, .str _ => True
  | j + 1, .list ds => ds.length ≤ 1000000 ∧ ∀ e ∈ ds, okN j e
  | j + 1, .tuple ds => ds.length ≤ 1000000 ∧ ∀ e ∈ ds, okN j e
  | _ + 1, .dict _ => False
theorem ok_ints (ns : List Int) (j : Nat) : ∀ e ∈ ns.map PyData.int, okN (j + 1) e := fun e he => by
  obtain ⟨n, _, rfl⟩ := List.mem_map.mp he
  trivial
theorem Wd.ok (x : Wd) : okN 2 x.d := by
  cases x with
  | num n => exact ⟨by show 2 ≤ 1000000; decide, fun e he => by rcases List.mem_cons.mp he with rfl | he; exact trivial; rcases List.mem_cons.mp he with rfl | he; exact trivial; cases he⟩
  | ptr r s p => exact ⟨by show 4 ≤ 1000000; decide, fun e he => by
      rcases List.mem_cons.mp he with rfl | he; exact trivial
      exact ok_ints [r, s, p] 0 e he⟩
theorem Rw.ok {x : Rw} (h : RwForm x) : okN 2 x.d := by
  obtain ⟨l, h1, h2⟩ := h
  have := form_len h1
  have e : l.length = l.cps.size := rfl
  refine ⟨?_, fun e he => ?_⟩
  · rw [List.length_cons, List.length_map]
    omega
  · rcases List.mem_cons.mp he with rfl | he
    · trivial
    · exact ok_ints x.ns 0 e he
theorem Sg.ok {x : Sg} (h : SgForm x) (l1 : x.ws.length ≤ 1000000) (l2 : x.rs.length ≤ 1000000) : okN 4 x.d := by
  refine ⟨by show 5 ≤ 1000000; decide, fun e he => ?_⟩
  rcases List.mem_cons.mp he with rfl | he
  · exact ⟨by show 3 ≤ 1000000; decide, ok_ints [x.r1, x.r2, x.r3] 1⟩
  rcases List.mem_cons.mp he with rfl | he
  · trivial
  rcases List.mem_cons.mp he with rfl | he
  · trivial
  rcases List.mem_cons.mp he with rfl | he
  · refine ⟨by rw [List.length_map]; exact l1, fun e he => ?_⟩
    obtain ⟨n, _, rfl⟩ := List.mem_map.mp he
    exact n.ok
  rcases List.mem_cons.mp he with rfl | he
  · refine ⟨by rw [List.length_map]; exact l2, fun e he => ?_⟩
    obtain ⟨n, hn, rfl⟩ := List.mem_map.mp he
    exact Rw.ok (h n hn)
  cases he
end Rg
namespace Rg
open PySem PySem.Spec L2
structure Mth (P : Program) (w : World) (K : PySem.W.Frag) (mg : Str → Option Value) (base : Heap) (C : Addr) (m : Str) (k : Nat) (ps : List Str) (sp : Sp) : Prop where
  ex : ∃ (f : Addr) (fd : FuncData), Meth K C m f ∧ Binds K fd ps [] ∧ FnOk P w K mg base CX0 k f fd ps sp
section
variable {X : Cx} {C : Addr} {k : Nat} {ps : List Str} {sp : Sp} {m : Str} {pos apos : Pos} {e o : Expr} {es : List Expr} {t : TA} {ta : TE}
theorem pe_mth {pl : Sem Bool} (M : Mth X.prog X.w X.K X.mg X.base C m k ps sp) (c : Cls X.K C) (hr : Room k X.A) (he : PE X o ta) (ha : PA X (e :: es) t)
    (hst : starEach (e :: es) X.env = (false, eval e X.env) :: starEach es X.env := by rfl) (hpl : (backTo pos (starEach es X.env)).any (·.1) = false := by rfl)
    (ht : eval (.Call (.Attribute o m apos) (e :: es) [] pos) X.env = (do
      let ov ← eval o X.env
      standAt apos.atName
      let (f, first) ← holding [ov] (getMethod ov m pl)
      callWith pos f first (backTo pos (starEach (e :: es) X.env)) (backToKw pos (keywordEach [] X.env))) := by rfl) :
    PE X (.Call (.Attribute o m apos) (e :: es) [] pos) (tMeth C m sp [] E0 ta t) := by
  obtain ⟨f, fd, hm, hb, F⟩ := M.ex
  exact pe_meth he c hm F hr hb .nil pass0 ha hst hpl ht
theorem pe_mth0 {pl : Sem Bool} (M : Mth X.prog X.w X.K X.mg X.base C m k ps sp) (c : Cls X.K C) (hr : Room k X.A) (he : PE X o ta)
    (ht : eval (.Call (.Attribute o m apos) [] [] pos) X.env = (do
      let ov ← eval o X.env
      standAt apos.atName
      let (f, first) ← holding [ov] (getMethod ov m pl)
      callWith pos f first (backTo pos (starEach [] X.env)) (backToKw pos (keywordEach [] X.env))) := by rfl) :
    PE X (.Call (.Attribute o m apos) [] [] pos) (tMeth C m sp [] E0 ta tNil) := by
  obtain ⟨f, fd, hm, hb, F⟩ := M.ex
  exact pe_meth0 he c hm F hr hb .nil pass0 ht
/-- len(o) by an own __len__ -/
theorem cr_len (M : Mth X.prog X.w X.K X.mg X.base C "__len__" k ps sp) (hr : Room (k + 1) X.A) : CallR X (.builtin "len") (rLenO C sp E0) := by
  obtain ⟨f, fd, hm, hb, F⟩ := M.ex
  exact call_lenO hm F hr hb pass0
end
section
variable {σ : L2.St} {H : Hp} {Q : VK} {K : PySem.W.Frag} {D : Ends}
theorem rd_ixL0 {p : Addr} {x : V} {xs : List V} (h : H p = some (.lst (x :: xs))) (q : Q x H) : rIxL K (.ref p) (.int 0) H Q := ⟨p, x :: xs, 0, x, rfl, rfl, SqL.of h, atI_nat (j := 0) rfl, q⟩
theorem rd_fld {ta : TE} {f : Str} (h : ta σ H fun x H1 => ∃ a C dx fs v, x = .ref a ∧ H1 a = some (.ins C dx fs) ∧ Cls K C ∧ NoAttr K C f ∧ fs.lookup f = some v ∧ Q v H1) : tFld K ta f σ H Q := h
theorem rd_sfld {ta tv : TE} {f : Str} (h : tv σ H fun y H1 => ta σ H1 fun x H2 => ∃ a C dx fs, x = .ref a ∧ H2 a = some (.ins C dx fs) ∧ Cls K C ∧ NoAttr K C f ∧ fs.length < 1000 ∧ D.nx σ (upd H2 a (.ins C dx (putF f y fs)))) : sFld K ta tv f D σ H := h
theorem rd_meth {C : Addr} {m : Str} {sp : Sp} {dvs : List V} {E : XK} {ta : TE} {t : TA} (h : ta σ H fun x H1 => ∃ a dx fs, x = .ref a ∧ H1 a = some (.ins C dx fs) ∧ fs.lookup m = none ∧ t σ H1 fun vs H2 => sp (x :: (vs ++ dvs)) H2 Q E) : tMeth C m sp dvs E ta t σ H Q := h
theorem rd_make {C : Addr} {sp : Sp} {dvs : List V} {E : XK} {t : TA} (h : t σ H fun vs H1 => ∀ x dx, H1 x = none → H1 dx = none → dx ≠ x → sp (.ref x :: (vs ++ dvs)) (upd (upd H1 dx (.own x)) x (.ins C dx [])) (fun v H2 => v = .non ∧ Q (.ref x) H2) E) : tMake C sp dvs E t σ H Q := h
theorem rd_makeK {C : Addr} {n m : Nat} {sp : Sp} {gV : List V → List V → List V} {E : XK} {t tk : TA} (h : t σ H fun vs H1 => tk σ H1 fun zs H2 => vs.length = n ∧ zs.length = m ∧ ∀ x dx, H2 x = none → H2 dx = none → dx ≠ x →
  sp (gV (.ref x :: vs) zs) (upd (upd H2 dx (.own x)) x (.ins C dx [])) (fun v H3 => v = .non ∧ Q (.ref x) H3) E) : tMakeK C n m sp gV E t tk σ H Q := h
end
def rLenS (K : PySem.W.Frag) : List V → Hp → VK → Prop := fun xs H Q => ∃ p ys, xs = [.ref p] ∧ (SqL K H p ys ∨ SqT K H p ys) ∧ Q (.int ys.length) H
def rTupOf (K : PySem.W.Frag) : List V → Hp → VK → Prop := fun xs H Q => ∃ p ys, xs = [.ref p] ∧ ((SqL K H p ys ∧ ∀ l, H l = none → Q (.ref l) (upd H l (.tup ys))) ∨ (SqT K H p ys ∧ Q (.ref p) H))
def rListOf (K : PySem.W.Frag) : List V → Hp → VK → Prop := fun xs H Q => ∃ p ys, xs = [.ref p] ∧ (SqL K H p ys ∨ SqT K H p ys) ∧ ∀ l, H l = none → Q (.ref l) (upd H l (.lst ys))
section
variable {X : Cx} {K : PySem.W.Frag}
theorem cr_lenS (h : X.K = K := by rfl) : CallR X (.builtin "len") (rLenS K) := by subst h; exact call_len_seq
theorem cr_tupOf (h : X.K = K := by rfl) : CallR X (.type "tuple") (rTupOf K) := by subst h; exact call_tuple_of
theorem cr_listOf (h : X.K = K := by rfl) : CallR X (.type "list") (rListOf K) := by subst h; exact call_list_of
theorem pe_fldK {e : Expr} {f : Str} {pos : Pos} {ta : TE} (he : PE X e ta) (hb : attributeBase e f X.env (eval e X.env) = eval e X.env) (h : X.K = K := by rfl) : PE X (.Attribute e f pos) (tFld K ta f) := by subst h; exact pe_fld he hb
theorem ps_fldK {o value : Expr} {f : Str} {pos pos' : Pos} {ta tv : TE} (ha : PE X o ta) (hv : PE X value tv) (hs : swapsWith value (some (.Attribute o f pos')) pos.line X.env = pure false) (h : X.K = K := by rfl) : PS X (.Assign [.Attribute o f pos'] value pos) (sFld K ta tv f) := by subst h; exact ps_fld ha hv hs
end
/-- a machine's fields -/
def mFlds (q : Addr) (b : Int) : List (Str × V) := putF "base" (.int b) (putF "segments" (.ref q) [])
theorem mFlds_s (q : Addr) (b : Int) : (mFlds q b).lookup ("segments" : Str) = some (.ref q) := by
  unfold mFlds
  rw [lookup_putF, if_neg (by decide +kernel), lookup_putF, if_pos rfl]
theorem mFlds_b (q : Addr) (b : Int) : (mFlds q b).lookup ("base" : Str) = some (.int b) := by
  unfold mFlds
  rw [lookup_putF, if_pos rfl]
theorem mFlds_no (q : Addr) (b : Int) {m : Str} (h1 : ¬ m = "base") (h2 : ¬ m = "segments") : (mFlds q b).lookup m = none := by
  unfold mFlds
  rw [lookup_putF, if_neg h1, lookup_putF, if_neg h2]
  rfl
/-- the class Machine, as the top leaves it -/
structure MC (K : PySem.W.Frag) (mg : Str → Option Value) (C : Addr) : Prop where
  cl : Cls K C
  nS : NoAttr K C "segments"
  nB : NoAttr K C "base"
  mgC : mg "Machine" = some (.ref C)
/-- a machine stands at x: its segments at q are the items vs -/
structure MAt (C : Addr) (H : Hp) (x : Addr) (vs : List V) (b : Int) : Prop where
  ex : ∃ dx q, H x = some (.ins C dx (mFlds q b)) ∧ H q = some (.tup vs)
theorem MAt.keep {C : Addr} {H H' : Hp} {x : Addr} {vs : List V} {b : Int} (h : MAt C H x vs b) (hx : ∀ o, H x = some o → H' x = some o) (tk : Tk H H') : MAt C H' x vs b := by
  obtain ⟨dx, q, h1, h2⟩ := h
  exact ⟨dx, q, hx _ h1, tk _ _ h2⟩
theorem MAt.same {C : Addr} {H H' : Hp} {x : Addr} {vs : List V} {b : Int} (h : MAt C H x vs b) (s : Same H H') : MAt C H' x vs b := h.keep (fun o => s x o) (Tk.of s)
/-- what __init__ is handed, where it makes a machine -/
def spInit (C : Addr) : Sp := fun vs H Q _ => ∃ (x dx L : Addr) (us : List V) (xs : List Sg) (b : Int), vs = [.ref x, .ref L, .int b] ∧ H x = some (.ins C dx []) ∧ H L = some (.lst us) ∧ RpAll H us (xs.map Sg.d) ∧ 1 ≤ xs.length ∧ xs.length ≤ 8 ∧ 2 ≤ b ∧ (∀ y ∈ xs, SgForm y ∧ sgFits y b xs.length = true) ∧
  ∀ H', MAt C H' x us b → (∀ c o, H c = some o → c ≠ x → H' c = some o) → Q .non H'
def spSegAt (C : Addr) : Sp := fun vs H Q _ => ∃ (x : Addr) (us : List V) (b k : Int) (v : V), vs = [.ref x, .int k] ∧ MAt C H x us b ∧ 0 ≤ k ∧ k < us.length ∧ us[k.toNat]? = some v ∧ Q v H
def spLen (C : Addr) : Sp := fun vs H Q _ => ∃ (x : Addr) (us : List V) (b : Int), vs = [.ref x] ∧ MAt C H x us b ∧ Q (.int us.length) H
theorem sg_small {x : Sg} {b m : Int} (h : sgFits x b m = true) : x.ws.length ≤ 16 ∧ x.rs.length ≤ 24 := by
  unfold sgFits at h
  simp only [Bool.and_eq_true, decide_eq_true_eq] at h
  exact ⟨h.2.2.2.1, h.2.2.2.2.1⟩
theorem form_mem {w l : Str} (h : formOf w = some l) : (w, l) ∈ rowForms := by
  have e : rowForms.lookup w = some l := h
  have : ∀ (L : List (Str × Str)) w l, L.lookup w = some l → (w, l) ∈ L := by
    intro L
    induction L with
    | nil => intro w l e; cases e
    | cons p L ih =>
      intro w l e
      rw [List.lookup_cons] at e
      by_cases hw : (w == p.1) = true
      · rw [hw] at e
        simp at e
        have : w = p.1 := by simpa using hw
        subst this
        subst e
        exact List.mem_cons_self ..
      · simp only [hw] at e
        exact List.mem_cons_of_mem _ (ih w l e)
  exact this _ w l e
theorem lay_map {α : Type} {f : α → PyData} : ∀ (xs : List α), (∀ x ∈ xs, (f x).canLay0 = true) → PyData.canLayAll0 (xs.map f) = true
  | [], _ => rfl
  | x :: xs, h => by
    show (PyData.canLay0 (f x) && PyData.canLayAll0 (xs.map f)) = true
    rw [h x (List.mem_cons_self ..), lay_map xs fun y hy => h y (List.mem_cons_of_mem _ hy)]
    rfl
theorem Wd.lay (x : Wd) : x.d.canLay0 = true := by
  cases x with
  | num n => show (PyData.canLay0 (.str "num") && (true && true)) = true; decide +kernel
  | ptr r s p => show (PyData.canLay0 (.str "ptr") && PyData.canLayAll0 ([r, s, p].map PyData.int)) = true; rw [lay_map [r, s, p] fun _ _ => rfl]; decide +kernel
theorem Rw.lay {x : Rw} (h : RwForm x) : x.d.canLay0 = true := by
  obtain ⟨l, h1, h2⟩ := h
  have h3 : ∀ p ∈ rowForms, PyData.canLay0 (.str p.1) = true := by decide +kernel
  show (PyData.canLay0 (.str x.op) && PyData.canLayAll0 (x.ns.map PyData.int)) = true
  rw [h3 _ (form_mem h1), lay_map x.ns fun _ _ => rfl]
  rfl
theorem ri_mem {x : Str} (h : riFits x = true) : x ∈ rightsL := by
  unfold riFits inV at h
  rw [List.any_map, List.any_eq_true] at h
  obtain ⟨y, hy, e⟩ := h
  have e' : y = x := by simpa [eqV] using e
  rw [← e']
  exact hy
theorem sg_parts {x : Sg} {b m : Int} (h : sgFits x b m = true) : brFits x.r1 x.r2 x.r3 = true ∧ riFits x.ri = true ∧ below x.ga (x.rs.length + 1) = true ∧ x.ws.length ≤ 16 ∧ x.rs.length ≤ 24 ∧ (∀ y ∈ x.ws, wdFits y b m = true) ∧ ∀ y ∈ x.rs, rowFits y m = true := by
  unfold sgFits at h
  simp only [Bool.and_eq_true, decide_eq_true_eq, List.all_eq_true] at h
  exact h
theorem depth_ok : ∀ (j : Nat) (d : PyData), okN j d → d.depth ≤ j
  | 0, _, h => h.elim
  | j + 1, .none, _ => Nat.zero_le _
  | j + 1, .bool _, _ => Nat.zero_le _
  | j + 1, .int _, _ => Nat.zero_le _
  | j + 1, .str _, _ => Nat.zero_le _
  | j + 1, .dict _, h => h.elim
  | j + 1, .list ds, h => by
    have : ∀ ds : List PyData, (∀ e ∈ ds, okN j e) → PyData.depthAll ds ≤ j := fun ds => by
      induction ds with
      | nil => intro _; exact Nat.zero_le _
      | cons a r ih =>
        intro h
        have h1 := depth_ok j a (h a (List.mem_cons_self ..))
        have h2 := ih fun e he => h e (List.mem_cons_of_mem _ he)
        show max (PyData.depth a) (PyData.depthAll r) ≤ j
        omega
    show PyData.depthAll ds + 1 ≤ j + 1
    have := this ds h.2
    omega
  | j + 1, .tuple ds, h => by
    have : ∀ ds : List PyData, (∀ e ∈ ds, okN j e) → PyData.depthAll ds ≤ j := fun ds => by
      induction ds with
      | nil => intro _; exact Nat.zero_le _
      | cons a r ih =>
        intro h
        have h1 := depth_ok j a (h a (List.mem_cons_self ..))
        have h2 := ih fun e he => h e (List.mem_cons_of_mem _ he)
        show max (PyData.depth a) (PyData.depthAll r) ≤ j
        omega
    show PyData.depthAll ds + 1 ≤ j + 1
    have := this ds h.2
    omega
theorem shaped_of {j : Nat} {d : PyData} (h1 : d.canLay0 = true) (h2 : okN j d) (hj : j ≤ 64) : SeqAt.shaped d = true := by
  unfold SeqAt.shaped
  rw [h1, decide_eq_true (Nat.le_trans (depth_ok j d h2) hj)]
  rfl
end Rg
namespace Rg
open PySem PySem.Spec L2
structure UbC (K : PySem.W.Frag) (mg : Str → Option Value) (x : Str) (m : Str) (f : Addr) : Prop where
  ex : ∃ (D : Addr) (mc : Value), mg x = some (.ref D) ∧ PySem.W.specialIn K (.ref D) "__getattribute__" = some (some (.builtin "type.__getattribute__")) ∧ PySem.W.typeIn K (.ref D) = some mc ∧ PySem.W.readsIn K D mc = true ∧ PySem.W.findCls K (.ref D) mc m = some (.val (.ref f)) ∧ PySem.W.keepIn K (.ref f) = true
section
variable {X : Cx} {k : Nat} {ps : List Str} {sp : Sp} {x m : Str} {f : Addr} {fd : FuncData} {p1 p2 pos : Pos} {e : Expr} {es : List Expr} {t : TA}
theorem pe_ubm {pl : Sem Bool} (U : UbC X.K X.mg x m f) (hg : Gl X x) (F : FnOk X.prog X.w X.K X.mg X.base CX0 k f fd ps sp) (hb : Binds X.K fd ps []) (hr : Room k X.A) (ha : PA X (e :: es) t) (hdb : (x == ("__debug__" : Str)) = false := by decide)
    (ht : eval (.Call (.Attribute (.Name x p1) m p2) (e :: es) [] pos) X.env = (do
      let ov ← eval (.Name x p1) X.env
      standAt p2.atName
      let (f, first) ← holding [ov] (getMethod ov m pl)
      callWith pos f first (backTo pos (starEach (e :: es) X.env)) (backToKw pos (keywordEach [] X.env))) := by rfl)
    (he : starEach (e :: es) X.env = (false, eval e X.env) :: starEach es X.env := by rfl) (hpl : (backTo pos (starEach es X.env)).any (·.1) = false := by rfl) :
    PE X (.Call (.Attribute (.Name x p1) m p2) (e :: es) [] pos) (tCall sp [] E0 t) := by
  obtain ⟨D, mc, hm, u1, u2, u3, u4, u5⟩ := U.ex
  refine ⟨fun pins s σ H Q I h => ?_⟩
  refine PySem.W.methodCall_KW (pl := pl) (ld_glob I hg hm ?_ hdb) ht
  obtain ⟨mm, fr⟩ := I.fr
  refine PySem.W.method_of_cls fr I.ok.mod.kin u1 (PySem.W.cls_val fr I.ok.mod.kin u2 u3 u4 rfl ?_)
  refine PySem.W.callWith_K (h₀ := X.base) I.ok.mod.kin u5 (thn (ha.run pos pins _ σ H _ (I.tok _) h) fun us s1 ⟨vs, H1, I1, r, q⟩ => ⟨I1.kIn, ?_⟩) he hpl
  exact run_fn F hr hb .nil pass0 I1 r q
end
/-- what an error may be made with -/
def Rbl (v : V) : Prop := v = .non ∨ ∃ i : Int, v = .int i ∧ i.natAbs.log2 < 1920
/-- {x!r} of None, an int -/
def tFmtX (te : TE) : TE := fun σ H Q => te σ H fun x H1 => Rbl x ∧ ∀ y : Str, y.length ≤ 2000 → Q (.str y) H1
theorem pe_fmtX {X : Cx} {e : Expr} {te : TE} {pos : Pos} (he : PE X e te) : PE X (.FormattedValue e 114 none pos) (tFmtX te) := by
  refine ⟨fun pins s σ H Q I h => ?_⟩
  refine wpAny_FormattedValue_repr (thn (he.run pins s σ H _ I h) fun v s1 ⟨x, H1, I1, r1, hx, q⟩ => ?_)
  rcases hx with rfl | ⟨i, rfl, hi⟩
  · obtain rfl : v = Value.none := r1
    have q' : EP X pins σ Q (Value.str "None" s1.toks) { s1 with toks := s1.toks + 1 } := ⟨.str "None", H1, I1.tok _, ⟨_, rfl⟩, q _ (by decide +kernel)⟩
    exact pyReprObj_none (wpAny_formatField_str q' ⟨.str "None", H1, I1.tok _, ⟨_, rfl⟩, q _ (by decide +kernel)⟩ (by decide +kernel))
  · obtain ⟨t, rfl⟩ := r1
    have l := PyProof.Rows.int_text_len_1921 hi
    have q2 := q (toString i) (Nat.le_trans l (by decide))
    exact pyReprObj_int hi (wpAny_formatField_str ⟨.str (toString i), H1, I1.tok _, ⟨_, rfl⟩, q2⟩ ⟨.str (toString i), H1, I1.tok _, ⟨_, rfl⟩, q2⟩ (int_text_fits hi))
/-- what the errors' __init__ does -/
def spRE (K : PySem.W.Frag) : Sp := fun vs H Q _ => ∃ (a C : Addr) (v : V), vs = [.ref a, v] ∧ Rbl v ∧ OexC K C ∧ PySem.W.findIn K (.ref C) "what" = some none ∧ H a = some (exo a C none) ∧
  ∀ d, H d = none → d ≠ a → Q .non (upd (upd H d (exd d [("what", v)])) a (exo a C (some d)))
/-- a class of errors, made with one value -/
structure Exk (P : Program) (w : World) (K : PySem.W.Frag) (mg : Str → Option Value) (base : Heap) (x : Str) (C : Addr) : Prop where
  oex : OexC K C
  wh : PySem.W.findIn K (.ref C) "what" = some none
  mgx : mg x = some (.ref C)
  xf : XfC K C
  ini : ∃ f fd, PySem.W.findIn K (.ref C) "__init__" = some (some (.ref f)) ∧ PySem.W.typeIn K (.ref f) = some (.type "function") ∧ Binds K fd ["self", "what"] [] ∧ FnOk P w K mg base CX0 2 f fd ["self", "what"] (spRE K)
def tRs (K : PySem.W.Frag) (C : Addr) (W : WX) (te : TE) : TS := fun _ σ H => tMkO C (spRE K) [] (tCons te tNil) σ H fun cls d H' => W cls d σ H'
theorem ps_raisew {X : Cx} {W : WX} {C : Addr} {x : Str} {e : Expr} {te : TE} {p pos pos' : Pos} (E : Exk X.prog X.w X.K X.mg X.base x C) (hc : X.calm = true) (tk : Takes X W) (hr : Room 3 X.A) (hg : Gl X x) (he : PE X e te) (hdb : (x == ("__debug__" : Str)) = false := by decide)
    (hst : starEach [e] X.env = (false, eval e X.env) :: starEach [] X.env := by rfl) (hpl : (backTo pos (starEach [] X.env)).any (·.1) = false := by rfl) : PS X (.Raise (some (.Call (.Name x p) [e] [] pos)) none pos') (tRs X.K C W te) := by
  obtain ⟨f, fd, i1, i2, b, F⟩ := E.ini
  exact ps_raise hc tk (pmk_oex E.oex i1 i2 F hr b .nil pass0 hg E.mgx (pa_cons he pa_nil hst) hdb hst hpl)
section
variable {σ : L2.St} {H : Hp} {Q : VK} {K : PySem.W.Frag} {D : Ends}
theorem rd_rs {C : Addr} {W : WX} {te : TE} (h : te σ H fun v H1 => [v].length ≤ 1000 ∧ ∀ a, H1 a = none → spRE K (.ref a :: ([v] ++ [])) (upd H1 a (exo a C none))
  (fun u H2 => u = .non ∧ ∃ (d : Addr) (fs : List (Str × V)), H2 a = some (exo a C (some d)) ∧ H2 d = some (exd d fs) ∧ H1 d = none ∧ W (.ref C) (some d) σ (upd (del H2 a) d (.xd fs))) (fun _ _ _ => False)) : tRs K C W te D σ H := h
theorem rd_mko {C : Addr} {v : V} {R : Option Addr → Hp → Prop} (T : OexC K C) (hw : PySem.W.findIn K (.ref C) "what" = some none) (hv : Rbl v) (q : ∀ d, H d = none → R (some d) (upd H d (.xd [("what", v)]))) :
    [v].length ≤ 1000 ∧ ∀ a, H a = none → spRE K (.ref a :: ([v] ++ [])) (upd H a (exo a C none)) (fun u H2 => u = .non ∧ ∃ (d : Addr) (fs : List (Str × V)), H2 a = some (exo a C (some d)) ∧ H2 d = some (exd d fs) ∧ H d = none ∧ R (some d) (upd (del H2 a) d (.xd fs))) (fun _ _ _ => False) := by
  refine ⟨by show 1 ≤ 1000; decide, fun a ha => ⟨a, C, v, rfl, hv, T, hw, upd_same, fun d hd ne => ⟨rfl, d, _, upd_same, by rw [upd_ne ne, upd_same], ?_, ?_⟩⟩⟩
  · rw [upd_ne ne] at hd
    exact hd
  · have hd' : H d = none := by rw [upd_ne ne] at hd; exact hd
    have e : upd (del (upd (upd (upd H a (exo a C none)) d (exd d [("what", v)])) a (exo a C (some d))) a) d (.xd [("what", v)]) = upd H d (.xd [("what", v)]) := by
      funext b
      by_cases h1 : b = d
      · rw [h1, upd_same, upd_same]
      · rw [upd_ne h1, upd_ne h1]
        by_cases h2 : b = a
        · rw [h2, del_same, ha]
        · rw [del_ne h2, upd_ne h2, upd_ne h1, upd_ne h2]
    rw [e]
    exact q d hd'
end
structure ExI (K : PySem.W.Frag) (D : Addr) : Prop where
  xf : XfC K D
  ha : PySem.W.findIn K (.ref D) "__class__" = some (some (.builtin "object.__class__"))
  hn : PySem.W.specialIn K (.builtin "object.__class__") "__get__" = some (some (.builtin "getset_descriptor.__get__"))
  ht : PySem.W.takesIn K (.builtin "object.__class__") = some true
  hm : PySem.W.mroIn K D (.type "object") = some true
section
variable {X : Cx} {a : Addr} {oe : Obj} {cls : Value} {d : Option Addr} {pn : List (Addr × Obj)} {K : PySem.W.Frag}
theorem ExI.cl {D : Addr} (E : ExI K D) : (PySem.W.clsIn K D).isSome = true := by
  have := E.xf.hdC
  obtain ⟨cd, hc, _⟩ := PySem.W.any_some this
  rw [hc]
  rfl
end
structure CalX (P : Program) (w : World) (K : PySem.W.Frag) (mg : Str → Option Value) (base : Heap) (x : Str) (k : Nat) (ps : List Str) (sp : Sp) : Prop where
  ex : ∃ (f : Addr) (fd : FuncData), mg x = some (.ref f) ∧ PySem.W.keepIn K (.ref f) = true ∧ Binds K fd ps [] ∧ FnOk P w K mg base (L2.CX P w) k f fd ps sp
section
variable {X : Cx} {k : Nat} {ps : List Str} {sp : Sp} {x : Str} {p pos : Pos} {e : Expr} {es : List Expr} {t : TA}
/-- where nothing is let out -/
theorem pass1 : Passes (L2.CX X.prog X.w) X E0 := passes_call takes0 fun _ _ _ _ h => h
/-- in the body of a try -/
theorem pe_calS {W : WX} (C : CalX X.prog X.w X.K X.mg X.base x k ps sp) (tk : Takes X W) (hr : Room k X.A) (hg : Gl X x) (ha : PA X (e :: es) t) (hdb : (x == ("__debug__" : Str)) = false := by decide)
    (he : starEach (e :: es) X.env = (false, eval e X.env) :: starEach es X.env := by rfl) (hpl : (backTo pos (starEach es X.env)).any (·.1) = false := by rfl) :
    PE X (.Call (.Name x p) (e :: es) [] pos) (tCallS sp (WE W) t) := by
  obtain ⟨f, fd, hm, hk, hb, F⟩ := C.ex
  exact pe_callS F hr hg hm hk hb (fun σ => passAt tk σ) ha hdb he hpl
end
theorem rd_callS {sp : Sp} {E : L2.St → XK} {t : TA} {σ : L2.St} {H : Hp} {Q : VK} (h : t σ H fun vs H1 => sp vs H1 Q (E σ)) : tCallS sp E t σ H Q := h
end Rg
namespace Rg
open PySem PySem.Spec L2
mutual
inductive DL (S : Addr → Prop) (H : Hp) : V → PyData → Prop
  | non : DL S H .non .none
  | bl (b : Bool) : DL S H (.bl b) (.bool b)
  | int (i : Int) : DL S H (.int i) (.int i)
  | str (x : Str) : DL S H (.str x) (.str x)
  | tup {a : Addr} {xs : List V} {ds : List PyData} : H a = some (.tup xs) → DLs S H xs ds → DL S H (.ref a) (.tuple ds)
  | lst {a : Addr} {xs : List V} {ds : List PyData} : S a → H a = some (.lst xs) → DLs S H xs ds → DL S H (.ref a) (.list ds)
inductive DLs (S : Addr → Prop) (H : Hp) : List V → List PyData → Prop
  | nil : DLs S H [] []
  | cons {v : V} {vs : List V} {d : PyData} {ds : List PyData} : DL S H v d → DLs S H vs ds → DLs S H (v :: vs) (d :: ds)
end
mutual
theorem DL.keep {S S' : Addr → Prop} {H H' : Hp} (tk : Tk H H') (kl : ∀ a xs, S a → H a = some (.lst xs) → S' a ∧ H' a = some (.lst xs)) : ∀ {d : PyData} {v : V}, DL S H v d → DL S' H' v d
  | _, _, .non => .non
  | _, _, .bl b => .bl b
  | _, _, .int i => .int i
  | _, _, .str x => .str x
  | _, _, .tup e h => .tup (tk _ _ e) (DLs.keep tk kl h)
  | _, _, .lst s e h => .lst (kl _ _ s e).1 (kl _ _ s e).2 (DLs.keep tk kl h)
theorem DLs.keep {S S' : Addr → Prop} {H H' : Hp} (tk : Tk H H') (kl : ∀ a xs, S a → H a = some (.lst xs) → S' a ∧ H' a = some (.lst xs)) : ∀ {ds : List PyData} {vs : List V}, DLs S H vs ds → DLs S' H' vs ds
  | _, _, .nil => .nil
  | _, _, .cons h t => .cons (DL.keep tk kl h) (DLs.keep tk kl t)
end
theorem DL.same {S : Addr → Prop} {H H' : Hp} {d : PyData} {v : V} (h : DL S H v d) (s : Same H H') : DL S H' v d := h.keep (Tk.of s) fun a xs q e => ⟨q, s _ _ e⟩
theorem DLs.same {S : Addr → Prop} {H H' : Hp} {d : List PyData} {v : List V} (h : DLs S H v d) (s : Same H H') : DLs S H' v d := h.keep (Tk.of s) fun a xs q e => ⟨q, s _ _ e⟩
mutual
theorem DL.dp {S : Addr → Prop} {K : PySem.W.Frag} {H : Hp} : ∀ {d : PyData} {v : V}, DL S H v d → Dp K H v d
  | _, _, .non => .non
  | _, _, .bl b => .bl b
  | _, _, .int i => .int i
  | _, _, .str x => .str x
  | _, _, .tup e h => .tup (SqT.of e) (DLs.dp h)
  | _, _, .lst _ e h => .lst (SqL.of e) (DLs.dp h)
theorem DLs.dp {S : Addr → Prop} {K : PySem.W.Frag} {H : Hp} : ∀ {ds : List PyData} {vs : List V}, DLs S H vs ds → DpAll K H vs ds
  | _, _, .nil => .nil
  | _, _, .cons h t => .cons (DL.dp h) (DLs.dp t)
end
theorem DLs.append {S : Addr → Prop} {H : Hp} : ∀ {ds es : List PyData} {vs us : List V}, DLs S H vs ds → DLs S H us es → DLs S H (vs ++ us) (ds ++ es)
  | _, _, _, _, .nil, h => h
  | _, _, _, _, .cons a t, h => .cons a (DLs.append t h)
theorem DLs.length {S : Addr → Prop} {H : Hp} : ∀ {ds : List PyData} {vs : List V}, DLs S H vs ds → vs.length = ds.length
  | _, _, .nil => rfl
  | _, _, .cons _ t => congrArg Nat.succ (DLs.length t)
theorem DLs.get2 {S : Addr → Prop} {H : Hp} : ∀ {ds : List PyData} {vs : List V} {i : Nat} {d : PyData}, DLs S H vs ds → ds[i]? = some d → ∃ v, vs[i]? = some v ∧ DL S H v d
  | _, _, _, _, .nil, e => by simp at e
  | _, _, 0, _, .cons h _, e => by
    simp at e
    subst e
    exact ⟨_, rfl, h⟩
  | _, _, i + 1, _, .cons _ t, e => by
    obtain ⟨d, h1, h2⟩ := DLs.get2 (i := i) t (by simpa using e)
    exact ⟨d, by simpa using h1, h2⟩
/-- made between two heaps -/
def New (H0 H1 : Hp) : Addr → Prop := fun a => H0 a = none ∧ H1 a ≠ none
theorem DL.new {H0 H : Hp} {d : PyData} {v : V} (h : DL (fun a => H0 a = none) H v d) : DL (New H0 H) H v d := h.keep (Tk.refl _) fun a xs q e => ⟨⟨q, by rw [e]; exact fun z => nomatch z⟩, e⟩
/-- .. and one place written since, that was there ahead or came behind -/
theorem DL.put {H0 H1 H : Hp} {d : PyData} {v : V} {p : Addr} {o : HO} (h : DL (New H0 H1) H v d) (hp : ∀ xs, H p ≠ some (.tup xs)) (hn : ¬ New H0 H1 p) : DL (New H0 H1) (upd H p o) v d :=
  h.keep (fun b xs e => by rw [upd_ne (fun z => hp xs (by rw [← z]; exact e))]; exact e) fun a xs q e => ⟨q, by rw [upd_ne (fun z => hn (by rw [← z]; exact q))]; exact e⟩
def CompD {β : Type} (D : Addr) (H1 : Hp) (xs : List β) (f : β → PyData) (i : Nat) (H' : Hp) : Prop := ∃ vs, H' D = some (.lst vs) ∧ DLs (fun a => H1 a = none ∧ a ≠ D) H' vs ((xs.take i).map f) ∧ Same H1 H'
theorem CompD.start {β : Type} {D : Addr} {H1 : Hp} {xs : List β} {f : β → PyData} (hD : H1 D = none) : CompD D H1 xs f 0 (upd H1 D (.lst [])) := ⟨[], upd_same, .nil, same_upd hD⟩
theorem CompD.step {β : Type} {D : Addr} {H1 H2 H4 : Hp} {xs : List β} {f : β → PyData} {i : Nat} {b : β} {y : V} (h : CompD D H1 xs f i H2) (hD : H1 D = none) (hi : i ≤ 1000) (hb : xs[i]? = some b) (k : Same H2 H4) (r : DL (fun a => H2 a = none) H4 y (f b)) :
    ∃ acc, H4 D = some (.lst acc) ∧ acc.length < sizeLine ∧ CompD D H1 xs f (i + 1) (upd H4 D (.lst (acc ++ [y]))) := by
  obtain ⟨vs, h1, h2, s1⟩ := h
  have e4 := k _ _ h1
  have kl : ∀ (S : Addr → Prop), (∀ a, S a → H1 a = none ∧ a ≠ D) → ∀ a xs, S a → H4 a = some (.lst xs) → (H1 a = none ∧ a ≠ D) ∧ upd H4 D (.lst (vs ++ [y])) a = some (.lst xs) := fun S hS a xs q e => ⟨hS a q, by rw [upd_ne (hS a q).2]; exact e⟩
  refine ⟨vs, e4, ?_, vs ++ [y], upd_same, ?_, fun c o q => ?_⟩
  · rw [h2.length, List.length_map, List.length_take]
    exact small1000 (by omega)
  · rw [take_snoc hb, List.map_append]
    refine ((h2.same k).keep (Tk.lst e4) (kl _ fun a q => q)).append (.cons (r.keep (Tk.lst e4) (kl _ fun a q => ⟨s1.free q, fun z => ?_⟩)) .nil)
    rw [z, h1] at q
    cases q
  · rw [upd_ne (ne_of_none q hD)]
    exact k _ _ (s1 _ _ q)
theorem CompD.end {β : Type} {D : Addr} {H1 H2 : Hp} {xs : List β} {f : β → PyData} {n : Nat} (h : CompD D H1 xs f n H2) (hD : H1 D = none) (hn : n = xs.length) : DL (fun a => H1 a = none) H2 (.ref D) (.list (xs.map f)) := by
  subst hn
  obtain ⟨vs, h1, h2, _⟩ := h
  rw [List.take_length] at h2
  exact .lst hD h1 (h2.keep (Tk.refl _) fun a xs q e => ⟨q.1, e⟩)
def has (c : Nat) (x : Str) : Bool := decide (c ∈ x.cps.toList)
def mRead (s : Sg) (e : Int) : Bool := has 114 s.ri && decide (e ≤ s.r2)
def mWrite (s : Sg) (e : Int) : Bool := has 119 s.ri && decide (e ≤ s.r1)
def mRun (s : Sg) (e : Int) : Bool := has 120 s.ri && (decide (s.r1 ≤ e) && decide (e ≤ s.r2))
def mCall (s : Sg) (e : Int) : Bool := has 120 s.ri && (decide (s.r2 < e) && decide (e ≤ s.r3))
def alD (r : Int) (s : Sg) : PyData := .tuple [.bool (mRead s r), .bool (mWrite s r), .bool (mRun s r), .bool (mCall s r)]
def tabD (xs : List Sg) : PyData := .list ((List.range 8).map fun r => .list (xs.map (alD (r : Nat))))
def spMay (fn : Sg → Int → Bool) : Sp := fun vs H Q _ => ∃ (v : V) (x : Sg) (e : Int), vs = [v, .int e] ∧ Rp H v x.d ∧ ∀ H', Same H H' → Q (.bl (fn x e)) H'
theorem rd_cut2 {K : PySem.W.Frag} {H : Hp} {Q : VK} {p : Addr} {x y z : V} {xs : List V} (h : H p = some (.tup (x :: y :: z :: xs))) (q : ∀ p', H p' = none → Q (.ref p') (upd H p' (.tup [x, y]))) : rSlT K (.ref p) none (some 2) H Q := by
  refine ⟨p, x :: y :: z :: xs, rfl, SqT.of h, ?_, fun p' hp' => ?_⟩
  · rintro ⟨_, h1⟩
    simp [HT.sIx] at h1
  · have e : cutV (x :: y :: z :: xs) none (some 2) = [x, y] := by
      unfold cutV
      have : HT.sIx (x :: y :: z :: xs).length (x :: y :: z :: xs).length (some 2) = 2 := by simp [HT.sIx]
      rw [this]
      simp [HT.sIx]
    rw [e]
    exact q p' hp'
theorem rd_callN {n m : Nat} {sp : Sp} {gV : List V → List V → List V} {E : XK} {t tk : TA} {σ : L2.St} {H : Hp} {Q : VK} (h : t σ H fun vs H1 => tk σ H1 fun zs H2 => vs.length = n ∧ zs.length = m ∧ sp (gV vs zs) H2 Q E) : tCallN n m sp gV E t tk σ H Q := h
section
variable {X : Cx} {K : PySem.W.Frag} {tg : Expr}
theorem pi_listK {l : Expr} {tl : TE} (hl : PE X l tl) (h : X.K = K := by rfl) : PI X tg l (iList K tl) := by subst h; exact pi_list hl
theorem pi_tupK {l : Expr} {tl : TE} (hl : PE X l tl) (h : X.K = K := by rfl) : PI X tg l (iTup K tl) := by subst h; exact pi_tup hl
end
theorem DL.cons_inv {S : Addr → Prop} {H : Hp} {v : V} {d : PyData} {ds : List PyData} (h : DL S H v (.list (d :: ds))) : ∃ a x xs, v = .ref a ∧ S a ∧ H a = some (.lst (x :: xs)) ∧ DL S H x d ∧ DLs S H xs ds := by
  cases h with
  | lst s a b =>
    cases b with
    | cons p q => exact ⟨_, _, _, rfl, s, a, p, q⟩
theorem DL.tup_inv {S : Addr → Prop} {H : Hp} {v : V} {ds : List PyData} (h : DL S H v (.tuple ds)) : ∃ a xs, v = .ref a ∧ H a = some (.tup xs) := by
  cases h with
  | tup e _ => exact ⟨_, _, rfl, e⟩
/-- what holds of a machine, of the table that is due and of the tray, through the law -/
structure I4 (C t g x Ld : Addr) (us : List V) (xs : List Sg) (b : Int) (n : Nat) (H7 H8 H : Hp) : Prop where
  m : MAt C H x us b
  rp : RpAll H us (xs.map Sg.d)
  due : DL (New H7 H8) H (.ref Ld) (tabD xs)
  T : Tray H t g n
  dom : ∀ c, H c = none → H8 c = none
  ht : H7 t ≠ none ∧ H8 t ≠ none
  hg : H7 g ≠ none ∧ H8 g ≠ none
section
variable {C t g x Ld : Addr} {us : List V} {xs : List Sg} {b : Int} {n m : Nat} {H7 H8 H H' : Hp}
theorem I4.same (I : I4 C t g x Ld us xs b n H7 H8 H) (s : Same H H') : I4 C t g x Ld us xs b n H7 H8 H' :=
  ⟨I.m.same s, I.rp.keep (Tk.of s), I.due.same s, I.T.same s, fun c h => I.dom c (s.free h), I.ht, I.hg⟩
theorem I4.put {p : Addr} {vs ws : List V} (I : I4 C t g x Ld us xs b n H7 H8 H) (hp : H p = some (.lst vs)) (h8 : H8 p = none) : I4 C t g x Ld us xs b n H7 H8 (upd H p (.lst ws)) := by
  have tk : Tk H (upd H p (.lst ws)) := Tk.lst hp
  have n1 : p ≠ t := fun z => I.ht.2 (by rw [← z]; exact h8)
  have n2 : p ≠ g := fun z => I.hg.2 (by rw [← z]; exact h8)
  refine ⟨I.m.keep (fun o e => ?_) tk, I.rp.keep tk, I.due.put (fun xs e => by rw [hp] at e; cases e) fun z => z.2 h8, I.T.put n1 n2, fun c h => ?_, I.ht, I.hg⟩
  · obtain ⟨dx, q, e1, _⟩ := I.m
    rw [upd_ne (ne_of e1 hp (fun z => nomatch z))]
    exact e
  · by_cases hc : c = p
    · rw [hc]
      exact h8
    · rw [upd_ne hc] at h
      exact I.dom c h
theorem I4.kp (I : I4 C t g x Ld us xs b n H7 H8 H) (k : Kp t g H H') (T : Tray H' t g m) : I4 C t g x Ld us xs b m H7 H8 H' := by
  have tk := k.tk I.T
  refine ⟨I.m.keep (fun o e => ?_) tk, I.rp.keep tk, I.due.keep tk fun a ys q e => ⟨q, ?_⟩, T, fun c h => ?_, I.ht, I.hg⟩
  · obtain ⟨dx, q, e1, _⟩ := I.m
    obtain ⟨_, et⟩ := I.T.ht
    obtain ⟨_, eg⟩ := I.T.hg
    exact k _ _ e (ne_of e1 et (fun z => nomatch z)) (ne_of e1 eg (fun z => nomatch z))
  · exact k _ _ e (fun z => I.ht.1 (by rw [← z]; exact q.1)) (fun z => I.hg.1 (by rw [← z]; exact q.1))
  · cases e : H c with
    | none => exact I.dom c e
    | some o =>
      by_cases h1 : c = t
      · obtain ⟨_, et⟩ := T.ht
        rw [h1, et] at h
        cases h
      by_cases h2 : c = g
      · obtain ⟨_, et⟩ := T.hg
        rw [h2, et] at h
        cases h
      rw [k _ _ e h1 h2] at h
      cases h
end
theorem rd_U {f : Int → V} {a : Int} {H : Hp} {Q : VK} (h : Q (f a) H) : rU f (.int a) H Q := ⟨a, rfl, h⟩
end Rg
namespace Rg
open PySem PySem.Spec L2
def tMakeKS (C : Addr) (n m : Nat) (sp : Sp) (gV : List V → List V → List V) (E : L2.St → XK) (t tk : TA) : TE := fun σ H Q => t σ H fun vs H1 => tk σ H1 fun zs H2 => vs.length = n ∧ zs.length = m ∧ ∀ x dx, H2 x = none → H2 dx = none → dx ≠ x →
  sp (gV (.ref x :: vs) zs) (upd (upd H2 dx (.own x)) x (.ins C dx [])) (fun v H3 => v = .non ∧ Q (.ref x) H3) (E σ)
theorem rd_makeKS {C : Addr} {n m : Nat} {sp : Sp} {gV : List V → List V → List V} {E : L2.St → XK} {t tk : TA} {σ : L2.St} {H : Hp} {Q : VK} (h : t σ H fun vs H1 => tk σ H1 fun zs H2 => vs.length = n ∧ zs.length = m ∧ ∀ x dx, H2 x = none → H2 dx = none → dx ≠ x →
  sp (gV (.ref x :: vs) zs) (upd (upd H2 dx (.own x)) x (.ins C dx [])) (fun v H3 => v = .non ∧ Q (.ref x) H3) (E σ)) : tMakeKS C n m sp gV E t tk σ H Q := h
def SgSmall (x : Sg) : Prop := SgForm x ∧ x.ws.length ≤ 900 ∧ x.rs.length ≤ 900
/-- what NoMachine is made with, if it is raised -/
inductive IW (xs : List Sg) (b : Int) : Option V → Prop
  | none (h : xs.length < 1 ∨ 8 < xs.length ∨ b < 2) : IW xs b (some .non)
  | num (i : Nat) (hl : 1 ≤ xs.length ∧ xs.length ≤ 8 ∧ 2 ≤ b) (y : Sg) (hy : xs[i]? = some y) (hf : sgFits y b xs.length = false) (ha : ∀ j z, j < i → xs[j]? = some z → sgFits z b xs.length = true) : IW xs b (some (.int i))
  | ok (hl : 1 ≤ xs.length ∧ xs.length ≤ 8 ∧ 2 ≤ b) (ha : ∀ z ∈ xs, sgFits z b xs.length = true) : IW xs b Option.none
end Rg
namespace Rg
open PySem PySem.Spec L2
theorem RpAll.take {H : Hp} : ∀ {ds : List PyData} {vs : List V} (n : Nat), RpAll H vs ds → RpAll H (vs.take n) (ds.take n)
  | _, _, 0, _ => .nil
  | _, _, _ + 1, .nil => .nil
  | _, _, n + 1, .cons h t => .cons h (RpAll.take n t)
theorem RpAll.set {H : Hp} {v : V} {d : PyData} (h : Rp H v d) : ∀ {ds : List PyData} {vs : List V} (n : Nat), RpAll H vs ds → RpAll H (vs.set n v) (ds.set n d)
  | _, _, _, .nil => .nil
  | _, _, 0, .cons _ t => .cons h t
  | _, _, n + 1, .cons a t => .cons a (RpAll.set h n t)
theorem cut_hi (xs : List V) (n : Nat) : cutV xs none (some (n : Int)) = xs.take n := by
  unfold cutV
  rw [HT.sIx_nat, HT.sIx_none, List.drop_zero, Nat.sub_zero, ← List.take_take, List.take_length]
theorem rd_catA {K : PySem.W.Frag} {H : Hp} {Q : VK} {p r : Addr} {xs ys : List V} (h1 : H p = some (.tup xs)) (h2 : H r = some (.tup ys)) (hl : xs.length + ys.length ≤ 1000) (q : ∀ (p' : Addr) (H' : Hp), Same H H' → H' p' = some (.tup (xs ++ ys)) → Q (.ref p') H') : rCatA K (.ref p) (.ref r) H Q := by
  refine ⟨p, r, xs, ys, rfl, rfl, SqT.of h1, SqT.of h2, Nat.le_of_lt (small1000 hl), fun e => ?_, fun _ e => ?_, fun _ _ p' hp' => q p' _ (same_upd hp') upd_same⟩
  · exact q r H (Same.refl _) (by rw [e]; exact h2)
  · exact q p H (Same.refl _) (by rw [e, List.append_nil]; exact h1)
def wl : Option V → List V
  | none => []
  | some v => [v]
/-- which segments are faulty -/
def FL (xs : List Sg) (b : Int) (N : Nat) (ds : List Nat) : Prop := ∀ j z, xs[j]? = some z → (sgFits z b N = false ↔ j ∈ ds)
end Rg
namespace Rg
open PySem PySem.Spec L2
theorem IW.un {xs : List Sg} {b : Int} {o : Option V} (h : IW xs b o) (hb : xs.length < 1 ∨ 8 < xs.length ∨ b < 2) : o = some .non := by
  cases h with
  | none _ => rfl
  | num i hl => omega
  | ok hl => omega
theorem FL.bad {xs : List Sg} {b : Int} {ds : List Nat} {i : Nat} {x : Sg} (h : FL xs b xs.length ds) (hx : sgFits x b xs.length = false) : FL (xs.set i x) b (xs.set i x).length (ds ++ [i]) := fun j z hz => by
  rw [List.length_set]
  by_cases e : j = i
  · subst e
    by_cases hl : j < xs.length
    · rw [List.getElem?_set_self hl] at hz
      cases hz
      exact ⟨fun _ => by simp, fun _ => hx⟩
    · rw [List.getElem?_eq_none (by simpa using hl)] at hz
      cases hz
  · rw [List.getElem?_set_ne (Ne.symm e)] at hz
    rw [h j z hz]
    simp [e]
/-- the segments, which of them are faulty, what is due, the tray -/
structure I7 (t g L Dl : Addr) (us : List V) (xs : List Sg) (b : Int) (al ds : List Nat) (n : Nat) (H : Hp) : Prop where
  hL : H L = some (.lst us)
  rp : RpAll H us (xs.map Sg.d)
  sm : ∀ y ∈ xs, SgSmall y
  fl : FL xs b xs.length ds
  hD : H Dl = some (.lst (al.map fun j => V.int (j : Nat)))
  T : Tray H t g n
  n1 : L ≠ t
  n2 : L ≠ g
  n3 : Dl ≠ t
  n4 : Dl ≠ g
  n5 : L ≠ Dl
section
variable {t g L Dl : Addr} {us : List V} {xs : List Sg} {b : Int} {al ds : List Nat} {n m : Nat} {H H' : Hp}
theorem I7.same (I : I7 t g L Dl us xs b al ds n H) (s : Same H H') : I7 t g L Dl us xs b al ds n H' :=
  ⟨s _ _ I.hL, I.rp.keep (Tk.of s), I.sm, I.fl, s _ _ I.hD, I.T.same s, I.n1, I.n2, I.n3, I.n4, I.n5⟩
theorem I7.kp (I : I7 t g L Dl us xs b al ds n H) (k : Kp t g H H') (T : Tray H' t g m) : I7 t g L Dl us xs b al ds m H' :=
  ⟨k _ _ I.hL I.n1 I.n2, I.rp.keep (k.tk I.T), I.sm, I.fl, k _ _ I.hD I.n3 I.n4, T, I.n1, I.n2, I.n3, I.n4, I.n5⟩
theorem I7.len (I : I7 t g L Dl us xs b al ds n H) : us.length = xs.length := by rw [I.rp.length, List.length_map]
theorem I7.set {v : V} {x : Sg} {i : Nat} {ds' : List Nat} (I : I7 t g L Dl us xs b al ds n H) (r : Rp H v x.d) (hx : SgSmall x) (hf : FL (xs.set i x) b (xs.set i x).length ds') : I7 t g L Dl (us.set i v) (xs.set i x) b al ds' n (upd H L (.lst (us.set i v))) := by
  have tk : Tk H (upd H L (.lst (us.set i v))) := Tk.lst I.hL
  refine ⟨upd_same, ?_, fun y hy => ?_, hf, by rw [upd_ne (Ne.symm I.n5)]; exact I.hD, I.T.put I.n1 I.n2, I.n1, I.n2, I.n3, I.n4, I.n5⟩
  · rw [List.map_set]
    exact RpAll.set (r.keep tk) i (I.rp.keep tk)
  · rcases List.mem_or_eq_of_mem_set hy with h | h
    · exact I.sm y h
    · rw [h]
      exact hx
theorem I7.due {al' : List Nat} (I : I7 t g L Dl us xs b al ds n H) : I7 t g L Dl us xs b al' ds n (upd H Dl (.lst (al'.map fun j => V.int (j : Nat)))) := by
  have tk : Tk H (upd H Dl (.lst (al'.map fun j => V.int (j : Nat)))) := Tk.lst I.hD
  exact ⟨by rw [upd_ne I.n5]; exact I.hL, I.rp.keep tk, I.sm, I.fl, upd_same, I.T.put I.n3 I.n4, I.n1, I.n2, I.n3, I.n4, I.n5⟩
theorem ixN_nat {n i : Nat} {z : Int} (e : z = (i : Int)) (h : i < n) : ixN n z = some i := by
  unfold ixN
  rw [e, if_pos (by omega), if_pos (by omega)]
  simp
end
end Rg
namespace Rg
open PySem PySem.Spec L2
/-- a comprehension of things that are tuples all through -/
def CompR {β : Type} (D : Addr) (H1 : Hp) (xs : List β) (f : β → PyData) (i : Nat) (H' : Hp) : Prop := ∃ vs, H' D = some (.lst vs) ∧ RpAll H' vs ((xs.take i).map f) ∧ Same H1 H'
theorem CompR.start {β : Type} {D : Addr} {H1 : Hp} {xs : List β} {f : β → PyData} (hD : H1 D = none) : CompR D H1 xs f 0 (upd H1 D (.lst [])) := ⟨[], upd_same, .nil, same_upd hD⟩
theorem CompR.step {β : Type} {D : Addr} {H1 H2 H4 : Hp} {xs : List β} {f : β → PyData} {i : Nat} {b : β} {y : V} (h : CompR D H1 xs f i H2) (hD : H1 D = none) (hi : i ≤ 1000) (hb : xs[i]? = some b) (k : Same H2 H4) (r : Rp H4 y (f b)) :
    ∃ acc, H4 D = some (.lst acc) ∧ acc.length < sizeLine ∧ CompR D H1 xs f (i + 1) (upd H4 D (.lst (acc ++ [y]))) := by
  obtain ⟨vs, h1, h2, s1⟩ := h
  have e4 := k _ _ h1
  have tk : Tk H4 (upd H4 D (.lst (vs ++ [y]))) := Tk.lst e4
  refine ⟨vs, e4, ?_, vs ++ [y], upd_same, ?_, fun c o q => ?_⟩
  · rw [h2.length, List.length_map, List.length_take]
    exact small1000 (by omega)
  · rw [take_snoc hb, List.map_append]
    exact ((h2.keep (Tk.of k)).keep tk).append (.cons (r.keep tk) .nil)
  · rw [upd_ne (ne_of_none q hD)]
    exact k _ _ (s1 _ _ q)
theorem CompR.end {β : Type} {D : Addr} {H1 H2 : Hp} {xs : List β} {f : β → PyData} {n : Nat} (h : CompR D H1 xs f n H2) (hn : n = xs.length) : ∃ vs, H2 D = some (.lst vs) ∧ RpAll H2 vs (xs.map f) ∧ Same H1 H2 := by
  subst hn
  obtain ⟨vs, h1, h2, s⟩ := h
  rw [List.take_length] at h2
  exact ⟨vs, h1, h2, s⟩
end Rg
namespace Rg
open PySem PySem.Spec L2
theorem rd_seqJ {t u : TS} {D : Ends} {σ : L2.St} {H : Hp} (post : L2.St → Hp → Prop) (h1 : ∀ R : L2.St → Hp → Prop, (∀ σ' H', post σ' H' → R σ' H') → t { D with nx := R } σ H) (h2 : ∀ σ' H', post σ' H' → u D σ' H') : tSeq t u D σ H := h1 (u D) h2
theorem rd_glst {K : PySem.W.Frag} {σ : L2.St} {H : Hp} {R : L2.St → Hp → Prop} {n : Nat} {t : TGs} {a : Addr} {xs : List V} (h : H a = some (.lst xs)) (hl : xs.length = n) (q : t xs σ H R) : gLst K n t (.ref a) σ H R := ⟨a, xs, rfl, SqL.of h, hl, q⟩
def dSg : Sg := ⟨0, 0, 0, "", 0, [], []⟩
end Rg
namespace Rg
open PySem PySem.Spec L2
theorem cut_lo (xs : List V) (n : Nat) : cutV xs (some (n : Int)) none = xs.drop n := by
  unfold cutV
  rw [HT.sIx_nat]
  have : HT.sIx xs.length xs.length none = xs.length := rfl
  rw [this]
  by_cases h : n ≤ xs.length
  · rw [Nat.min_eq_left h]
    exact List.take_of_length_le (by rw [List.length_drop]; omega)
  · rw [Nat.min_eq_right (by omega), Nat.sub_self, List.take_zero, List.drop_of_length_le (by omega)]
end Rg
namespace Rg
open PySem PySem.Spec L2
/-- a deck of draws: two lists -/
structure Deck (H : Hp) (t g : Addr) (n : Nat) : Prop where
  ne : t ≠ g
  ex : ∃ (gs : List Int) (f c : Int), H t = some (.lst [.ref g, .int f, .int c]) ∧ H g = some (.lst (gs.map V.int)) ∧ (∀ z ∈ gs, 0 ≤ z) ∧ 0 ≤ f ∧ f < 2305843009213693952 ∧ 0 ≤ c ∧ c ≤ (n : Int)
theorem Deck.mono {H : Hp} {t g : Addr} {n m : Nat} (T : Deck H t g n) (h : n ≤ m) : Deck H t g m := by
  obtain ⟨ne, gs, f, c, h1, h2, h3, h4, h5, h6, h7⟩ := T
  exact ⟨ne, gs, f, c, h1, h2, h3, h4, h5, h6, by omega⟩
theorem Deck.same {H H' : Hp} {t g : Addr} {n : Nat} (T : Deck H t g n) (s : Same H H') : Deck H' t g n := by
  obtain ⟨ne, gs, f, c, h1, h2, h3⟩ := T
  exact ⟨ne, gs, f, c, s _ _ h1, s _ _ h2, h3⟩
theorem Deck.new {H : Hp} {t g p : Addr} {n : Nat} {o : HO} (T : Deck H t g n) (h : H p = none) : Deck (upd H p o) t g n := T.same (same_upd h)
theorem Deck.put {H : Hp} {t g p : Addr} {n : Nat} {o : HO} (T : Deck H t g n) (h1 : p ≠ t) (h2 : p ≠ g) : Deck (upd H p o) t g n := by
  obtain ⟨ne, gs, f, c, e1, e2, h3⟩ := T
  exact ⟨ne, gs, f, c, by rw [upd_ne (Ne.symm h1)]; exact e1, by rw [upd_ne (Ne.symm h2)]; exact e2, h3⟩
theorem Deck.ht {H : Hp} {t g : Addr} {n : Nat} (T : Deck H t g n) : ∃ xs, H t = some (.lst xs) := by
  obtain ⟨_, _, _, _, e, _⟩ := T
  exact ⟨_, e⟩
theorem Deck.hg {H : Hp} {t g : Addr} {n : Nat} (T : Deck H t g n) : ∃ xs, H g = some (.lst xs) := by
  obtain ⟨_, _, _, _, _, e, _⟩ := T
  exact ⟨_, e⟩
/-- a place that was free is none of the tray's -/
theorem Deck.net {H : Hp} {t g p : Addr} {n : Nat} (T : Deck H t g n) (h : H p = none) : p ≠ t := by
  obtain ⟨_, e⟩ := T.ht
  exact Ne.symm (ne_of_none e h)
theorem Deck.neg {H : Hp} {t g p : Addr} {n : Nat} (T : Deck H t g n) (h : H p = none) : p ≠ g := by
  obtain ⟨_, e⟩ := T.hg
  exact Ne.symm (ne_of_none e h)
theorem Deck.netT {H : Hp} {t g p : Addr} {n : Nat} {xs : List V} (T : Deck H t g n) (h : H p = some (.tup xs)) : p ≠ t := by
  obtain ⟨_, e⟩ := T.ht
  exact ne_of h e (fun z => nomatch z)
theorem Deck.negT {H : Hp} {t g p : Addr} {n : Nat} {xs : List V} (T : Deck H t g n) (h : H p = some (.tup xs)) : p ≠ g := by
  obtain ⟨_, e⟩ := T.hg
  exact ne_of h e (fun z => nomatch z)
theorem Kp.dk {t g : Addr} {H H' : Hp} {n : Nat} (k : Kp t g H H') (T : Deck H t g n) : Tk H H' := fun b xs e => k b _ e (T.netT e) (T.negT e)
def DeckL (t g D : Addr) (H1 : Hp) (n0 c : Nat) (Pd : PyData → Prop) (i : Nat) (H' : Hp) : Prop :=
  ∃ (vs : List V) (ds : List PyData), H' D = some (.lst vs) ∧ RpAll H' vs ds ∧ ds.length = i ∧ (∀ d ∈ ds, Pd d) ∧ Deck H' t g (n0 + c * i) ∧ Kp t g H1 H'
theorem DeckL.start {t g D : Addr} {H1 : Hp} {n0 c : Nat} {Pd : PyData → Prop} (T : Deck H1 t g n0) (hD : H1 D = none) : DeckL t g D H1 n0 c Pd 0 (upd H1 D (.lst [])) :=
  ⟨[], [], upd_same, .nil, rfl, fun _ h => (nomatch h), (T.new hD).mono (by omega), Kp.new hD⟩
theorem DeckL.step {t g D : Addr} {H1 H2 H4 : Hp} {n0 c i n : Nat} {Pd : PyData → Prop} {y : V} {d : PyData} (h : DeckL t g D H1 n0 c Pd i H2) (T1 : Deck H1 t g n0) (hD : H1 D = none) (hi : i ≤ 1000) (T : Deck H4 t g n) (hn : n ≤ n0 + c * i + c) (k : Kp t g H2 H4) (r : Rp H4 y d) (p : Pd d) :
    ∃ acc, H4 D = some (.lst acc) ∧ acc.length < sizeLine ∧ DeckL t g D H1 n0 c Pd (i + 1) (upd H4 D (.lst (acc ++ [y]))) := by
  obtain ⟨vs, ds, e, ra, hl, hp, T2, k2⟩ := h
  have e4 : H4 D = some (.lst vs) := k D _ e (T1.net hD) (T1.neg hD)
  have tk : Tk H2 (upd H4 D (.lst (vs ++ [y]))) := (k.dk T2).trans (Tk.lst e4)
  refine ⟨vs, e4, by rw [ra.length, hl]; exact small1000 hi, vs ++ [y], ds ++ [d], upd_same, (ra.keep tk).append (.cons (r.keep (Tk.lst e4)) .nil), by simp [hl], fun z hz => ?_, (T.put (T1.net hD) (T1.neg hD)).mono (by rw [Nat.mul_succ]; omega), (k2.trans k).put hD⟩
  rcases List.mem_append.mp hz with q | q
  · exact hp z q
  · rw [List.mem_singleton.mp q]
    exact p
end Rg
namespace Rg
open PySem PySem.Spec L2
/-- a pointer, or None -/
abbrev Pt := Option (Int × Int × Int)
def ptD : Pt → PyData
  | none => .none
  | some (r, s, p) => .tuple [.int r, .int s, .int p]
def memD (m : List (List Wd)) : PyData := .tuple (m.map fun ws => .tuple (ws.map Wd.d))
structure Sd where
  ring : Int
  a : Int
  pt : List Pt
  me : List (List Wd)
def Sd.d (s : Sd) : PyData := .tuple [.int s.ring, .int s.a, .tuple (s.pt.map ptD), memD s.me]
def firstS (xs : List Sg) (r : Int) : Sd := ⟨r, 0, [none, none, none, none], xs.map Sg.ws⟩
theorem okN_mono : ∀ {j k : Nat} {d : PyData}, j ≤ k → okN j d → okN k d
  | 0, _, _, _, h => h.elim
  | j + 1, k + 1, .none, _, _ => trivial
  | j + 1, k + 1, .bool _, _, _ => trivial
  | j + 1, k + 1, .int _, _, _ => trivial
  | j + 1, k + 1, .str _, _, _ => trivial
  | j + 1, k + 1, .dict _, _, h => h.elim
  | j + 1, k + 1, .list ds, hk, h => ⟨h.1, fun e he => okN_mono (Nat.le_of_succ_le_succ hk) (h.2 e he)⟩
  | j + 1, k + 1, .tuple ds, hk, h => ⟨h.1, fun e he => okN_mono (Nat.le_of_succ_le_succ hk) (h.2 e he)⟩
theorem okN_map {α : Type} {f : α → PyData} {j : Nat} {xs : List α} (hl : xs.length ≤ 1000) (h : ∀ x ∈ xs, okN j (f x)) : okN (j + 1) (.tuple (xs.map f)) := by
  refine ⟨by rw [List.length_map]; omega, fun e he => ?_⟩
  obtain ⟨x, hx, rfl⟩ := List.mem_map.mp he
  exact h x hx
theorem pt_ok (p : Pt) : okN 2 (ptD p) := by
  match p with
  | none => trivial
  | some (r, s, p) => exact ⟨by show 3 ≤ 1000000; decide, ok_ints [r, s, p] 0⟩
theorem mem_ok {m : List (List Wd)} (h1 : m.length ≤ 1000) (h2 : ∀ ws ∈ m, ws.length ≤ 1000) : okN 4 (memD m) := okN_map h1 fun ws hw => okN_map (h2 ws hw) fun x _ => x.ok
theorem Sd.ok {s : Sd} (h1 : s.pt.length ≤ 1000) (h2 : s.me.length ≤ 1000) (h3 : ∀ ws ∈ s.me, ws.length ≤ 1000) : okN 5 s.d := by
  refine ⟨by show 4 ≤ 1000000; decide, fun e he => ?_⟩
  rcases List.mem_cons.mp he with rfl | he
  · trivial
  rcases List.mem_cons.mp he with rfl | he
  · trivial
  rcases List.mem_cons.mp he with rfl | he
  · exact okN_mono (j := 3) (by decide) (okN_map h1 fun p _ => pt_ok p)
  rcases List.mem_cons.mp he with rfl | he
  · exact mem_ok h2 h3
  cases he
end Rg
namespace Rg
open PySem PySem.Spec PyProof.Rows L2
/-- the items of a tuple with their places -/
def ItEt (K : PySem.W.Frag) (b : Addr) : It :=
  ⟨fun i H => ∃ (ys : List V) (y : V), SqT K H b ys ∧ ys[i]? = some y,
    fun i H v H' => ∃ T y, v = .ref T ∧ H T = none ∧ H' = upd H T (.tup [.int (i : Nat), y]) ∧ ∀ ys, SqT K H b ys → ys[i]? = some y,
    fun i H => ∃ ys : List V, SqT K H b ys ∧ i = ys.length⟩
def iEnT (K : PySem.W.Frag) (ta : TA) : TI := fun σ H R => ta σ H fun vs H1 => ∃ (b : Addr) (ys : List V), vs = [.ref b] ∧ SqT K H1 b ys ∧ R (ItEt K b) H1
theorem rd_ienT {K : PySem.W.Frag} {ta : TA} {σ : L2.St} {H : Hp} {R : It → Hp → Prop} (h : ta σ H fun vs H1 => ∃ (b : Addr) (ys : List V), vs = [.ref b] ∧ SqT K H1 b ys ∧ R (ItEt K b) H1) : iEnT K ta σ H R := h
end Rg
namespace Rg
open PySem PySem.Spec PyProof.Rows L2
/-- what the written part says of such a class -/
structure OexE (K : PySem.W.Frag) (C : Addr) : Prop where
  cls : ∃ nm q N bs sn sub ab col dd k0 k1 k2 k3 k5, K.lookup C = some (excClassObj nm q C N bs PySem.ESX.exTail true sn sub ab col dd k0 k1 k2 k3 k5 "Exception.__new__")
  sa : PySem.W.findIn K (.ref C) "__setattr__" = some (some (.builtin "object.__setattr__"))
  exC : PySem.W.subIn K (.ref C) (.type "BaseException") = some true
  tyC : PySem.W.typeIn K (.ref C) = some (.type "type")
  kC : PySem.W.keepIn K (.ref C) = true
section
variable {X : Cx} {pins : List (Addr × Obj)} {σ : L2.St} {H : Hp} {s : Shared} {a C : Addr} {f : Str} {y : V} {u : Value}
/-- the error gets its dict: the heap that follows -/
theorem inv_dict {hp h' : Heap} {g : Array GenState} {dr : Drawn} {t tk : Nat} {os : OsState} {dx : Addr} (I : L2.Inv X pins σ H ⟨hp, g, dr, t, os⟩) (e : H a = some (exo a C none)) (ry : RelV y u) (k : ∀ b o, b ≠ a → hp.get? b = some o → h'.get? b = some o) (dn : hp.objs.size ≤ dx) (dne : dx ≠ a)
    (hx : h'.get? a = some { cls := .ref C, dict := some dx, data := .fields #[.ref tk, .none, .none, .none, .bool false, .none] }) (hn : h'.Ns1 dx (fun z => if z = f then some u else none)) (t' : Nat) :
    H dx = none ∧ L2.Inv X pins σ (upd (upd H dx (exd dx [(f, y)])) a (exo a C (some dx))) ⟨h', g, dr, t', os⟩ := by
  have nd : H dx = none := I.hok.fresh dn
  have old : ∀ {b : Addr} {o : Obj}, hp.get? b = some o → b ≠ dx := fun q => Nat.ne_of_lt (Nat.lt_of_lt_of_le (Heap.lt_size q) dn)
  have noa : ∀ {b : Addr}, H b = none → b ≠ a := fun n z => by rw [z, e] at n; cases n
  refine ⟨nd, I.un (t' := t') ?_ fun b o q => ?_⟩
  · exact
    { keep := fun b o q n _ _ => k b o (noa n) q
      slot := fun b o q n _ _ => ⟨o.slots, k b o (noa n) q⟩
      free := fun b o q n _ => (upd_ne (noa n)).trans ((upd_ne (old q)).trans n)
      there := fun b o q _ => if hb : b = a then ⟨_, hb ▸ hx⟩ else ⟨o, k b o hb q⟩
      tups := fun b xs q => (upd_ne (at_ne e q exo_tup)).trans ((upd_ne (ne_of_none q nd)).trans q)
      frzs := fun b o v q => (upd_ne (at_ne e q exo_frz)).trans ((upd_ne (ne_of_none q nd)).trans q)
      tbls := fun b ps q => ⟨#[], by rw [upd_ne (at_ne e q exo_tbl), upd_ne (ne_of_none q nd), q]; simp⟩ }
  · by_cases h1 : b = a
    · subst h1
      rw [upd_same] at q
      cases q
      exact exo_ok hx
    rw [upd_ne h1] at q
    by_cases h2 : b = dx
    · subst h2
      rw [upd_same] at q
      cases q
      exact exd_ok hn (relO_put (fs := []) ry fun _ => True.intro)
    rw [upd_ne h2] at q
    refine (I.hok b o q).stay (fun c v hc z => k c v ?_ z) (fun c hc => ?_) (fun c xs hc => ?_)
    · rcases hc with hc | hc
      · exact hc ▸ h1
      · exact at_ne e hc exo_own
    · exact (upd_ne (at_ne e hc exo_own)).trans ((upd_ne (ne_of_none hc nd)).trans hc)
    · exact (upd_ne (at_ne e hc exo_tup)).trans ((upd_ne (ne_of_none hc nd)).trans hc)
theorem est_new {A : Around} {Q : Unit → Shared → Prop} {E : Value → Shared → Prop} (T : OexE X.K C) (I : L2.Inv X pins σ H s) (e : H a = some (exo a C none)) (hno : PySem.W.findIn X.K (.ref C) f = some none) (ry : RelV y u)
    (h : ∀ dx s', H dx = none → dx ≠ a → L2.Inv X pins σ (upd (upd H dx (exd dx [(f, y)])) a (exo a C (some dx))) s' → Q () s') : wpAny (model X.prog X.w) A (setAttr (.ref a) f u) Q E s := by
  obtain ⟨nm, q, N, bs, sn, sub, ab, col, dd, k0, k1, k2, k3, k5, hC⟩ := T.cls
  have cd : PySem.W.clsIn X.K C = some { name := nm, bases := bs, mro := .ref C :: PySem.ESX.exTail, ns := N, qualname := q, hasDict := true, slotNames := sn, subclasses := sub, abstract := ab, collection := col, hasDel := false } := by unfold PySem.W.clsIn; rw [hC] <;> rfl
  obtain ⟨tk, ho⟩ := exo_at I.hok e
  obtain ⟨hp, g, d, t, os⟩ := s
  refine PySem.W.set_plain I.kIn (ox := { cls := .ref C, dict := none, data := .fields #[.ref tk, .none, .none, .none, .bool false, .none] }) (od := none) ⟨ho, rfl, rfl, trivial⟩ T.sa ?_
  refine PySem.ESX.osa_new I.kIn ho cd rfl rfl hno fun h' t' dx k dn dne hx hn => ?_
  obtain ⟨n1, J⟩ := inv_dict (t' := t') I e ry k dn dne hx hn
  exact h dx _ n1 dne J
theorem ein_ok {A : Around} {us : List Value} {Q : Value → Shared → Prop} {E : Value → Shared → Prop} (T : OexE X.K C) (I : L2.Inv X pins σ H s) (e : H a = some (exo a C none)) (hl : us.length ≤ sizeLine) (h : ∀ s', L2.Inv X pins σ H s' → Q .none s') :
    wpAny (model X.prog X.w) A (call (.builtin "Exception.__init__") (.ref a :: us)) Q E s := by
  obtain ⟨nm, q, N, bs, sn, sub, ab, col, dd, k0, k1, k2, k3, k5, hC⟩ := T.cls
  obtain ⟨tk, ho⟩ := exo_at I.hok e
  obtain ⟨hp, g, d, t, os⟩ := s
  refine wpAny_call (PySem.HandSPX.init_base F.excBase_Exception (fun _ => rfl) (I.kIn _ _ hC) ho hl fun h' t2 k hx => h _ ?_)
  have J := I.write (t' := t) (x := a) (e := a) (o := exo a C none) (e ▸ True.intro) (.inl rfl) k ⟨_, hx⟩ (exo_ok hx)
  have eu : upd H a (exo a C none) = H := funext fun b => if hb : b = a then by rw [hb, upd_same, e] else upd_ne hb
  rwa [eu] at J
end
/-- Exception.__init__(self, ..) -/
def tEnI (K : PySem.W.Frag) (ta : TA) : TE := fun σ H Q => ta σ H fun vs H1 => ∃ (a C : Addr) (ws : List V), vs = .ref a :: ws ∧ ws.length ≤ 1000 ∧ OexE K C ∧ H1 a = some (exo a C none) ∧ Q .non H1
/-- self.f = e, the first one -/
def tEst (K : PySem.W.Frag) (f : Str) (to te : TE) : TS := fun D σ H => te σ H fun y H1 => to σ H1 fun x H2 => ∃ a C : Addr, x = .ref a ∧ OexE K C ∧ PySem.W.findIn K (.ref C) f = some none ∧ H2 a = some (exo a C none) ∧ ∀ dx, H2 dx = none → dx ≠ a → D.nx σ (upd (upd H2 dx (exd dx [(f, y)])) a (exo a C (some dx)))
theorem typ_Exc : typeOf (.type "Exception") = pure (.type "type") := by kernel_rfl
section
variable {X : Cx} {o e : Expr} {es : List Expr} {to te : TE} {ta : TA} {f : Str} {p p' p1 p2 pos : Pos}
theorem pe_eninit {pl : Sem Bool} (hg : Gl X "Exception") (hm : X.mg "Exception" = none) (vE : PySem.W.findCls X.K (.type "Exception") (.type "type") "__init__" = some (.val (.builtin "Exception.__init__"))) (ha : PA X (e :: es) ta)
    (hc : eval (.Call (.Attribute (.Name "Exception" p1) "__init__" p2) (e :: es) [] pos) X.env = (do
      let ov ← eval (.Name "Exception" p1) X.env
      standAt p2.atName
      let (f, first) ← holding [ov] (getMethod ov "__init__" pl)
      callWith pos f first (backTo pos (starEach (e :: es) X.env)) (backToKw pos (keywordEach [] X.env))) := by rfl)
    (hst : starEach (e :: es) X.env = (false, eval e X.env) :: starEach es X.env := by rfl) (hpl : (backTo pos (starEach es X.env)).any (·.1) = false := by rfl) :
    PE X (.Call (.Attribute (.Name "Exception" p1) "__init__" p2) (e :: es) [] pos) (tEnI X.K ta) := by
  refine ⟨fun pins s σ H Q I h => PySem.W.methodCall_KW (ld_blt I hg hm PyProof.Rows.Boot.«Exception» ?_ (by decide) (by decide)) hc⟩
  obtain ⟨m, fr⟩ := I.fr
  refine PySem.W.method_type fr I.ok.mod.kin typ_Exc (by decide +kernel) vE (by decide +kernel) ?_
  show wpAny _ _ (callWith pos (Value.builtin "Exception.__init__") [] (backTo pos (starEach (e :: es) X.env)) []) _ _ _
  refine PyProof.Rows.callWith_method1 (thn (ha.run pos pins _ σ H _ (I.tok _) h) fun us z ⟨vs, H1, I1, r1, a, C, ws, ev, hl, T, ea, q⟩ => ?_) hst hpl
  subst ev
  cases r1 with
  | cons ra rr =>
    cases ra
    exact ein_ok T I1 ea (by rw [← Paired.length rr, sizeLine_eq]; omega) fun s' J => ⟨.non, H1, J, rfl, q⟩
theorem ps_est (ho : PE X o to) (he : PE X e te) (hs : swapsWith e (some (.Attribute o f p')) pos.line X.env = pure false := by rfl) : PS X (.Assign [.Attribute o f p'] e pos) (tEst X.K f to te) := by
  refine ⟨fun pins s σ H D I h => plainObj_wpAny_Assign_Attribute (thn (he.run pins s σ H _ I h) fun v z ⟨y, H1, I1, r1, q1⟩ => thn (ho.run pins z σ H1 _ I1 q1) fun u z2 ⟨x, H2, I2, r2, a, C, ex, T, hno, ea, q⟩ => ?_) hs⟩
  subst ex
  cases r2
  exact est_new T I2 ea hno r1 fun dx s' n ne J => ⟨σ, _, J, q dx n ne⟩
/-- what the error's __init__ does -/
def spFE (K : PySem.W.Frag) : Sp := fun vs H Q _ => ∃ (a C : Addr) (v : V), vs = [.ref a, v] ∧ OexE K C ∧ PySem.W.findIn K (.ref C) "cause" = some none ∧ H a = some (exo a C none) ∧
  ∀ d, H d = none → d ≠ a → Q .non (upd (upd H d (exd d [("cause", v)])) a (exo a C (some d)))
/-- Fault(e): an error with its field -/
theorem pmk_fault {x : Str} {C fI : Addr} {k : Nat} {fd : FuncData} {ps : List Str} (T : OexE X.K C) (hw : PySem.W.findIn X.K (.ref C) "cause" = some none) (iC : PySem.W.findIn X.K (.ref C) "__init__" = some (some (.ref fI))) (tI : PySem.W.typeIn X.K (.ref fI) = some (.type "function"))
    (F1 : FnOk X.prog X.w X.K X.mg X.base CX0 k fI fd ps (spFE X.K)) (hr : Room (k + 1) X.A) (hb : Binds X.K fd ps []) (hg : Gl X x) (hm : X.mg x = some (.ref C)) (ha : PE X e te)
    (hdb : (x == ("__debug__" : Str)) = false := by decide) (hst : starEach [e] X.env = (false, eval e X.env) :: starEach [] X.env := by rfl) (hpl : (backTo pos (starEach [] X.env)).any (·.1) = false := by rfl) :
    L2N.PMk X (.Call (.Name x p) [e] [] pos) (fun σ H Q => te σ H fun v H1 => ∀ d, H1 d = none → Q (.ref C) (some d) (upd H1 d (.xd [("cause", v)]))) := by
  intro pins s σ H Q I h
  obtain ⟨nm, q, N, bs, sn, sub, ab, col, dd, k0, k1, k2, k3, k5, hC⟩ := T.cls
  refine wpAny_Call_Name_kw (ld_glob I hg hm (PySem.W.callWith_K (h₀ := X.base) I.ok.mod.kin T.kC (thn ((pa_cons ha pa_nil hst).run pos pins s σ H (fun vs H1 => ∃ v, vs = [v] ∧ ∀ d, H1 d = none → Q (.ref C) (some d) (upd H1 d (.xd [("cause", v)]))) I ?_) fun us z ⟨vs, H1, I1, r1, q1⟩ => ⟨I1.kIn, ?_⟩) hst hpl) hdb)
  · have : te σ H (fun v H1 => ∀ d, H1 d = none → Q (.ref C) (some d) (upd H1 d (.xd [("cause", v)]))) := h
    show te σ H fun v H1 => ∃ v', [v] = [v'] ∧ ∀ d, H1 d = none → Q (.ref C) (some d) (upd H1 d (.xd [("cause", v')]))
    have e1 : (fun (v : V) (H1 : Hp) => ∃ v', [v] = [v'] ∧ ∀ d, H1 d = none → Q (.ref C) (some d) (upd H1 d (.xd [("cause", v')]))) = fun v H1 => ∀ d, H1 d = none → Q (.ref C) (some d) (upd H1 d (.xd [("cause", v)])) := by
      funext v H1
      apply propext
      constructor
      · rintro ⟨v', ev, q⟩
        cases ev
        exact q
      · exact fun q => ⟨v, rfl, q⟩
    rw [e1]
    exact this
  obtain ⟨v, rfl, q1⟩ := q1
  show wpAny _ _ (call (.ref C) us) _ _ _
  obtain ⟨hp, g, dr, tk, os⟩ := z
  have sz : hp.objs.size ≤ hp.objs.size + 1 := Nat.le_succ _
  have n1 : H1 (hp.objs.size + 1) = none := I1.hok.fresh sz
  have kk : ∀ b o, hp.get? b = some o → ((hp.push (PySem.W.kdv_tup us)).push (PySem.HandSPX.excO C hp.objs.size)).get? b = some o := fun b o e => Heap.get?_push_of_some _ (Heap.get?_push_of_some _ e)
  have gt : ((hp.push (PySem.W.kdv_tup us)).push (PySem.HandSPX.excO C hp.objs.size)).get? (hp.objs.size + 1) = some (PySem.HandSPX.excO C hp.objs.size) := by heap_get
  have I2 : L2.Inv X pins σ (upd H1 (hp.objs.size + 1) (exo (hp.objs.size + 1) C none)) ⟨(hp.push (PySem.W.kdv_tup us)).push (PySem.HandSPX.excO C hp.objs.size), g, dr, tk, os⟩ := I1.laid (t' := tk) kk sz (exo_ok gt)
  have r2 : Vals [V.ref (hp.objs.size + 1), v] (Value.ref (hp.objs.size + 1) :: us) := .cons rfl r1
  have sp1 : spFE X.K [.ref (hp.objs.size + 1), v] (upd H1 (hp.objs.size + 1) (exo (hp.objs.size + 1) C none)) (fun w H2 => w = .non ∧ ∃ d, H1 d = none ∧ d ≠ hp.objs.size + 1 ∧ H2 = upd (upd (upd H1 (hp.objs.size + 1) (exo (hp.objs.size + 1) C none)) d (exd d [("cause", v)])) (hp.objs.size + 1) (exo (hp.objs.size + 1) C (some d))) (fun _ _ _ => False) :=
    ⟨_, C, v, rfl, T, hw, upd_same, fun d hd ne => ⟨rfl, d, by rw [upd_ne ne] at hd; exact hd, ne, rfl⟩⟩
  have hl : (Value.ref (hp.objs.size + 1) :: us).length = ps.length := r2.length.symm.trans (F1.len _ _ _ _ sp1)
  have lu : us.length ≤ sizeLine := by rw [← Paired.length r1, sizeLine_eq]; show 1 ≤ _; decide
  have b0 := hb ⟨(hp.push (PySem.W.kdv_tup us)).push (PySem.HandSPX.excO C hp.objs.size), g, dr, tk, os⟩ (Value.ref (hp.objs.size + 1) :: us) I2.kIn (by rw [List.append_nil]; exact hl)
  rw [List.append_nil] at b0
  refine wpAny_call (PySem.HandSPX.call_own F.excBase_Exception (fun _ => rfl) (I1.kIn _ _ hC) (PySem.W.looks_findIn I1.kIn iC) (fun self => PySem.W.bind_fn I1.kIn self tI) lu (codeAny_mono (F1.run _ X.stack _ _ ⟨Value.ref (hp.objs.size + 1) :: us, []⟩ (Value.ref (hp.objs.size + 1) :: us) _ _ (fun _ _ _ => False) (hr.make C us []) (I2.env0.make C us []) b0 r2 sp1) fun r s' hq => ?_))
  match r, hq with
  | .error er, hq => exact pass0 pins σ _ _ er s' I2 hq
  | .ok (.ret w), hq =>
    obtain ⟨v', H2, os2, bare2, un2, hok2, rv, ev, d, hd1, hne, e2⟩ := hq
    subst ev
    obtain ⟨h2, g2, d2, t2, os'⟩ := s'
    have ea : H2 (hp.objs.size + 1) = some (exo (hp.objs.size + 1) C (some d)) := by rw [e2, upd_same]
    have ed : H2 d = some (exd d [("cause", v)]) := by rw [e2, upd_ne hne, upd_same]
    obtain ⟨t0, G, J, kG, ge, hoe, na⟩ := mk_end0 (d2 := d2) (t2 := t2) I1 sz kk un2 hok2 os2 bare2 ea ed hd1
    refine ⟨rv, hp.objs.size + 1, _, _, ⟨G, g2, d2, t2, os'⟩, _, .ref C, some d, rfl, J, kG, ge, hoe, ⟨rfl, rfl, fun z hz => by cases hz; rfl⟩, rfl, rfl, na, rfl, bare2, raises_own T.exC T.tyC, ?_⟩
    have eH : upd (del H2 (hp.objs.size + 1)) d (.xd [("cause", v)]) = upd H1 d (.xd [("cause", v)]) := by
      funext b
      by_cases h1 : b = d
      · rw [h1, upd_same, upd_same]
      · rw [upd_ne h1, upd_ne h1]
        by_cases h2 : b = hp.objs.size + 1
        · rw [h2, del_same, n1]
        · rw [del_ne h2, e2, upd_ne h2, upd_ne h1, upd_ne h2]
    rw [eH]
    exact q1 d hd1
  | .ok .next, hq => exact False.elim hq
  | .ok .brk, hq => exact False.elim hq
  | .ok .cont, hq => exact False.elim hq
end
/-- as Fun.okX, where the error's context is told too -/
theorem Fun.okN {P : Program} {w : World} {K : PySem.W.Frag} {mg : Str → Option Value} {base : Heap} {x qual : Str} {st : Stmt} {f : Addr} {fd : FuncData} {N ps : List Str} {k : Nat} {sp : Sp} (F : L2.Fun K x qual st f fd) (S : FnScope N ps (defScope st)) (len : ∀ vs H Q E, sp vs H Q E → vs.length = ps.length)
    (body : ∀ (cdv : Value) (A : Around) (outer : List Env) (s : Shared) (H : Hp) (vs : List V) (Q : VK) (E : XK), Room k (A.deeper (envOfC qual (defScope st) s.heap.objs.size f cdv)) → sp vs H Q E →
      ∃ t, PSs (cxOf (L2N.CX P w) P w K mg base N qual (defScope st) f cdv A outer s H E) (defBody st) t ∧ t { nx := fun _ H' => Q .non H', rt := Q } (L2.start N vs) H) : FnOk P w K mg base (L2N.CX P w) (k + 1) f fd ps sp := by
  obtain ⟨oc, od, kV, doc, pm, an, cdv, ct, osl, rfl, lk, hcd⟩ := F.ex
  exact fn_of lk hcd S len fun A outer s H vs Q E hr h => body cdv A outer s H vs Q E hr h
end Rg
namespace Rg
open PySem PySem.Spec L2
/-- the state of a run -/
structure Rn where
  ring : Int
  a : Int
  pt : List Pt
  me : List (List Wd)
  wh : Option (Int × Int)
  ca : List (Int × Option (Int × Int))
  st : List (Int × Int × Int × Int)
  to : List (Int × Int × Int × Str)
def whD : Option (Int × Int) → PyData
  | none => .none
  | some (g, p) => .tuple [.int g, .int p]
def caD (c : Int × Option (Int × Int)) : PyData := .tuple [.int c.1, whD c.2]
def stD (c : Int × Int × Int × Int) : PyData := .tuple [.int c.1, .int c.2.1, .int c.2.2.1, .int c.2.2.2]
def toD (c : Int × Int × Int × Str) : PyData := .tuple [.int c.1, .int c.2.1, .int c.2.2.1, .str c.2.2.2]
def mx (i j : Int) : Int := if j > i then j else i
def sgAt (xs : List Sg) (g : Int) : Sg := xs.getD g.toNat dSg
def Rn.ptr (s : Rn) (p : Int) : Pt := s.pt.getD p.toNat none
def Rn.mem (s : Rn) (g : Int) : List Wd := s.me.getD g.toNat []
/-- where a pointer leads to -/
def spotR (s : Rn) (p w : Int) : Except Str (Int × Int × Int) := match s.ptr p with
  | none => .error "pointer"
  | some (r, g, pl) => if 0 ≤ pl + w ∧ pl + w < ((s.mem g).length : Int) then .ok (mx s.ring r, g, pl + w) else .error "bounds"
def Rn.touch (s : Rn) (e g p : Int) (w : Str) : Rn := { s with to := s.to ++ [(e, g, p, w)] }
def Rn.wordAt (s : Rn) (g p : Int) : Wd := (s.mem g).getD p.toNat (.num 0)
def Rn.put (s : Rn) (g p : Int) (x : Wd) : Rn := { s with me := s.me.set g.toNat ((s.mem g).set p.toNat x) }
def Rn.ptrSet (s : Rn) (q : Int) (x : Pt) : Rn := { s with pt := s.pt.set q.toNat x }
def readR (xs : List Sg) (s : Rn) (p w : Int) : Except Str (Wd × Int × Int × Rn) := match spotR s p w with
  | .error c => .error c
  | .ok (e, g, pl) => if mRead (sgAt xs g) e = true then .ok (s.wordAt g pl, e, g, s.touch e g pl "r") else .error "read"
def writeR (xs : List Sg) (s : Rn) (p w : Int) (x : Wd) : Rn × Option Str := match spotR s p w with
  | .error c => (s, some c)
  | .ok (e, g, pl) => if mWrite (sgAt xs g) e = true then ((s.touch e g pl "w").put g pl x, none) else (s, some "write")
def raisedR (r : Int) : Pt → Pt
  | none => none
  | some (o, g, p) => some (mx o r, g, p)
def Rn.enter (s : Rn) (r : Int) (w : Option (Int × Int)) : Rn := { s with ring := r, wh := w, pt := s.pt.map (raisedR r) }
def enteredR (x : Sg) (pl e : Int) : Except Str Int :=
  if has 120 x.ri = false then .error "run"
  else if ¬ (0 ≤ pl ∧ pl < (x.rs.length : Int)) then .error "entry"
  else if e ≤ x.r2 then .ok (mx e x.r1)
  else if e > x.r3 then .error "call"
  else if pl ≥ x.ga then .error "gate"
  else .ok x.r2
def rSet (b : Int) (s : Rn) (n : Int) : Rn × Option Str := ({ s with a := n % b }, none)
def rAdd (b : Int) (s : Rn) (n : Int) : Rn × Option Str := ({ s with a := (s.a + n) % b }, none)
def rLoad (xs : List Sg) (s : Rn) (p w : Int) : Rn × Option Str := match readR xs s p w with
  | .error c => (s, some c)
  | .ok (.num n, _, _, s') => ({ s' with a := n }, none)
  | .ok (.ptr .., _, _, s') => (s', some "kind")
def rStore (xs : List Sg) (s : Rn) (p w : Int) : Rn × Option Str := writeR xs s p w (.num s.a)
def rFetch (xs : List Sg) (s : Rn) (q p w : Int) : Rn × Option Str := match readR xs s p w with
  | .error c => (s, some c)
  | .ok (.num _, _, _, s') => (s', some "kind")
  | .ok (.ptr r g pl, e, n, s') => (s'.ptrSet q (some (mx (mx r e) (sgAt xs n).r1, g, pl)), none)
def rKeep (xs : List Sg) (s : Rn) (q p w : Int) : Rn × Option Str := match s.ptr q with
  | none => (s, some "pointer")
  | some (r, g, pl) => writeR xs s p w (.ptr r g pl)
def rAim (s : Rn) (q g w : Int) : Rn × Option Str := if w < 0 then (s, some "bounds") else (s.ptrSet q (some (s.ring, g, w)), none)
def rMove (s : Rn) (q p n : Int) : Rn × Option Str := match s.ptr p with
  | none => (s, some "pointer")
  | some (r, g, pl) => if pl + n < 0 then (s, some "bounds") else (s.ptrSet q (some (r, g, pl + n)), none)
def rGo (s : Rn) (j : Int) : Rn × Option Str := match s.wh with
  | none => (s, some "hand")
  | some (g, _) => ({ s with wh := some (g, j) }, none)
def rZero (s : Rn) (j : Int) : Rn × Option Str := match s.wh with
  | none => (s, some "hand")
  | some (g, _) => if s.a = 0 then ({ s with wh := some (g, j) }, none) else (s, none)
def rCall (xs : List Sg) (s : Rn) (p : Int) : Rn × Option Str := match s.ptr p with
  | none => (s, some "pointer")
  | some (r, g, pl) => match enteredR (sgAt xs g) pl (mx s.ring r) with
    | .error c => (s, some c)
    | .ok e => if 8 ≤ s.ca.length then (s, some "deep") else (({ s with ca := s.ca ++ [(s.ring, s.wh)] } : Rn).enter e (some (g, pl)), none)
def rRet (s : Rn) : Rn × Option Str := match s.wh with
  | none => (s, some "hand")
  | some _ => match s.ca.getLast? with
    | none => (s, some "hand")
    | some (r, w) => (({ s with ca := s.ca.dropLast } : Rn).enter r w, none)
def rF (v0 v1 v2 v3 v4 v5 v6 v7 v8 v9 : V) : List (Str × V) := [("machine", v0), ("hand", v1), ("ring", v2), ("a", v3), ("pointers", v4), ("memory", v5), ("where", v6), ("calls", v7), ("steps", v8), ("touches", v9)]
theorem rF_machine {v0 v1 v2 v3 v4 v5 v6 v7 v8 v9 : V} : (rF v0 v1 v2 v3 v4 v5 v6 v7 v8 v9).lookup ("machine" : Str) = some v0 := by unfold rF; rw [lookup_put, if_pos rfl]
theorem rF_hand {v0 v1 v2 v3 v4 v5 v6 v7 v8 v9 : V} : (rF v0 v1 v2 v3 v4 v5 v6 v7 v8 v9).lookup ("hand" : Str) = some v1 := by unfold rF; rw [lookup_put, if_neg (by decide +kernel)]; rw [lookup_put, if_pos rfl]
theorem rF_ring {v0 v1 v2 v3 v4 v5 v6 v7 v8 v9 : V} : (rF v0 v1 v2 v3 v4 v5 v6 v7 v8 v9).lookup ("ring" : Str) = some v2 := by unfold rF; rw [lookup_put, if_neg (by decide +kernel)]; rw [lookup_put, if_neg (by decide +kernel)]; rw [lookup_put, if_pos rfl]
theorem put_ring {v0 v1 v2 v3 v4 v5 v6 v7 v8 v9 y : V} : putF "ring" y (rF v0 v1 v2 v3 v4 v5 v6 v7 v8 v9) = rF v0 v1 y v3 v4 v5 v6 v7 v8 v9 := by unfold rF putF; rw [if_neg (by decide +kernel)]; unfold putF; rw [if_neg (by decide +kernel)]; unfold putF; rw [if_pos rfl]
theorem rF_a {v0 v1 v2 v3 v4 v5 v6 v7 v8 v9 : V} : (rF v0 v1 v2 v3 v4 v5 v6 v7 v8 v9).lookup ("a" : Str) = some v3 := by unfold rF; rw [lookup_put, if_neg (by decide +kernel)]; rw [lookup_put, if_neg (by decide +kernel)]; rw [lookup_put, if_neg (by decide +kernel)]; rw [lookup_put, if_pos rfl]
theorem put_a {v0 v1 v2 v3 v4 v5 v6 v7 v8 v9 y : V} : putF "a" y (rF v0 v1 v2 v3 v4 v5 v6 v7 v8 v9) = rF v0 v1 v2 y v4 v5 v6 v7 v8 v9 := by unfold rF putF; rw [if_neg (by decide +kernel)]; unfold putF; rw [if_neg (by decide +kernel)]; unfold putF; rw [if_neg (by decide +kernel)]; unfold putF; rw [if_pos rfl]
theorem rF_pointers {v0 v1 v2 v3 v4 v5 v6 v7 v8 v9 : V} : (rF v0 v1 v2 v3 v4 v5 v6 v7 v8 v9).lookup ("pointers" : Str) = some v4 := by unfold rF; rw [lookup_put, if_neg (by decide +kernel)]; rw [lookup_put, if_neg (by decide +kernel)]; rw [lookup_put, if_neg (by decide +kernel)]; rw [lookup_put, if_neg (by decide +kernel)]; rw [lookup_put, if_pos rfl]
theorem put_pointers {v0 v1 v2 v3 v4 v5 v6 v7 v8 v9 y : V} : putF "pointers" y (rF v0 v1 v2 v3 v4 v5 v6 v7 v8 v9) = rF v0 v1 v2 v3 y v5 v6 v7 v8 v9 := by unfold rF putF; rw [if_neg (by decide +kernel)]; unfold putF; rw [if_neg (by decide +kernel)]; unfold putF; rw [if_neg (by decide +kernel)]; unfold putF; rw [if_neg (by decide +kernel)]; unfold putF; rw [if_pos rfl]
theorem rF_memory {v0 v1 v2 v3 v4 v5 v6 v7 v8 v9 : V} : (rF v0 v1 v2 v3 v4 v5 v6 v7 v8 v9).lookup ("memory" : Str) = some v5 := by unfold rF; rw [lookup_put, if_neg (by decide +kernel)]; rw [lookup_put, if_neg (by decide +kernel)]; rw [lookup_put, if_neg (by decide +kernel)]; rw [lookup_put, if_neg (by decide +kernel)]; rw [lookup_put, if_neg (by decide +kernel)]; rw [lookup_put, if_pos rfl]
theorem rF_where {v0 v1 v2 v3 v4 v5 v6 v7 v8 v9 : V} : (rF v0 v1 v2 v3 v4 v5 v6 v7 v8 v9).lookup ("where" : Str) = some v6 := by unfold rF; rw [lookup_put, if_neg (by decide +kernel)]; rw [lookup_put, if_neg (by decide +kernel)]; rw [lookup_put, if_neg (by decide +kernel)]; rw [lookup_put, if_neg (by decide +kernel)]; rw [lookup_put, if_neg (by decide +kernel)]; rw [lookup_put, if_neg (by decide +kernel)]; rw [lookup_put, if_pos rfl]
theorem put_where {v0 v1 v2 v3 v4 v5 v6 v7 v8 v9 y : V} : putF "where" y (rF v0 v1 v2 v3 v4 v5 v6 v7 v8 v9) = rF v0 v1 v2 v3 v4 v5 y v7 v8 v9 := by unfold rF putF; rw [if_neg (by decide +kernel)]; unfold putF; rw [if_neg (by decide +kernel)]; unfold putF; rw [if_neg (by decide +kernel)]; unfold putF; rw [if_neg (by decide +kernel)]; unfold putF; rw [if_neg (by decide +kernel)]; unfold putF; rw [if_neg (by decide +kernel)]; unfold putF; rw [if_pos rfl]
theorem rF_calls {v0 v1 v2 v3 v4 v5 v6 v7 v8 v9 : V} : (rF v0 v1 v2 v3 v4 v5 v6 v7 v8 v9).lookup ("calls" : Str) = some v7 := by unfold rF; rw [lookup_put, if_neg (by decide +kernel)]; rw [lookup_put, if_neg (by decide +kernel)]; rw [lookup_put, if_neg (by decide +kernel)]; rw [lookup_put, if_neg (by decide +kernel)]; rw [lookup_put, if_neg (by decide +kernel)]; rw [lookup_put, if_neg (by decide +kernel)]; rw [lookup_put, if_neg (by decide +kernel)]; rw [lookup_put, if_pos rfl]
theorem rF_steps {v0 v1 v2 v3 v4 v5 v6 v7 v8 v9 : V} : (rF v0 v1 v2 v3 v4 v5 v6 v7 v8 v9).lookup ("steps" : Str) = some v8 := by unfold rF; rw [lookup_put, if_neg (by decide +kernel)]; rw [lookup_put, if_neg (by decide +kernel)]; rw [lookup_put, if_neg (by decide +kernel)]; rw [lookup_put, if_neg (by decide +kernel)]; rw [lookup_put, if_neg (by decide +kernel)]; rw [lookup_put, if_neg (by decide +kernel)]; rw [lookup_put, if_neg (by decide +kernel)]; rw [lookup_put, if_neg (by decide +kernel)]; rw [lookup_put, if_pos rfl]
theorem rF_touches {v0 v1 v2 v3 v4 v5 v6 v7 v8 v9 : V} : (rF v0 v1 v2 v3 v4 v5 v6 v7 v8 v9).lookup ("touches" : Str) = some v9 := by unfold rF; rw [lookup_put, if_neg (by decide +kernel)]; rw [lookup_put, if_neg (by decide +kernel)]; rw [lookup_put, if_neg (by decide +kernel)]; rw [lookup_put, if_neg (by decide +kernel)]; rw [lookup_put, if_neg (by decide +kernel)]; rw [lookup_put, if_neg (by decide +kernel)]; rw [lookup_put, if_neg (by decide +kernel)]; rw [lookup_put, if_neg (by decide +kernel)]; rw [lookup_put, if_neg (by decide +kernel)]; rw [lookup_put, if_pos rfl]
theorem rF_no_stand_now {v0 v1 v2 v3 v4 v5 v6 v7 v8 v9 : V} : (rF v0 v1 v2 v3 v4 v5 v6 v7 v8 v9).lookup ("stand_now" : Str) = none := by unfold rF; rw [lookup_put, if_neg (by decide +kernel)]; rw [lookup_put, if_neg (by decide +kernel)]; rw [lookup_put, if_neg (by decide +kernel)]; rw [lookup_put, if_neg (by decide +kernel)]; rw [lookup_put, if_neg (by decide +kernel)]; rw [lookup_put, if_neg (by decide +kernel)]; rw [lookup_put, if_neg (by decide +kernel)]; rw [lookup_put, if_neg (by decide +kernel)]; rw [lookup_put, if_neg (by decide +kernel)]; rw [lookup_put, if_neg (by decide +kernel)]; rfl
theorem rF_no_forget {v0 v1 v2 v3 v4 v5 v6 v7 v8 v9 : V} : (rF v0 v1 v2 v3 v4 v5 v6 v7 v8 v9).lookup ("forget" : Str) = none := by unfold rF; rw [lookup_put, if_neg (by decide +kernel)]; rw [lookup_put, if_neg (by decide +kernel)]; rw [lookup_put, if_neg (by decide +kernel)]; rw [lookup_put, if_neg (by decide +kernel)]; rw [lookup_put, if_neg (by decide +kernel)]; rw [lookup_put, if_neg (by decide +kernel)]; rw [lookup_put, if_neg (by decide +kernel)]; rw [lookup_put, if_neg (by decide +kernel)]; rw [lookup_put, if_neg (by decide +kernel)]; rw [lookup_put, if_neg (by decide +kernel)]; rfl
theorem rF_no_pointer {v0 v1 v2 v3 v4 v5 v6 v7 v8 v9 : V} : (rF v0 v1 v2 v3 v4 v5 v6 v7 v8 v9).lookup ("pointer" : Str) = none := by unfold rF; rw [lookup_put, if_neg (by decide +kernel)]; rw [lookup_put, if_neg (by decide +kernel)]; rw [lookup_put, if_neg (by decide +kernel)]; rw [lookup_put, if_neg (by decide +kernel)]; rw [lookup_put, if_neg (by decide +kernel)]; rw [lookup_put, if_neg (by decide +kernel)]; rw [lookup_put, if_neg (by decide +kernel)]; rw [lookup_put, if_neg (by decide +kernel)]; rw [lookup_put, if_neg (by decide +kernel)]; rw [lookup_put, if_neg (by decide +kernel)]; rfl
theorem rF_no_spot {v0 v1 v2 v3 v4 v5 v6 v7 v8 v9 : V} : (rF v0 v1 v2 v3 v4 v5 v6 v7 v8 v9).lookup ("spot" : Str) = none := by unfold rF; rw [lookup_put, if_neg (by decide +kernel)]; rw [lookup_put, if_neg (by decide +kernel)]; rw [lookup_put, if_neg (by decide +kernel)]; rw [lookup_put, if_neg (by decide +kernel)]; rw [lookup_put, if_neg (by decide +kernel)]; rw [lookup_put, if_neg (by decide +kernel)]; rw [lookup_put, if_neg (by decide +kernel)]; rw [lookup_put, if_neg (by decide +kernel)]; rw [lookup_put, if_neg (by decide +kernel)]; rw [lookup_put, if_neg (by decide +kernel)]; rfl
theorem rF_no_read {v0 v1 v2 v3 v4 v5 v6 v7 v8 v9 : V} : (rF v0 v1 v2 v3 v4 v5 v6 v7 v8 v9).lookup ("read" : Str) = none := by unfold rF; rw [lookup_put, if_neg (by decide +kernel)]; rw [lookup_put, if_neg (by decide +kernel)]; rw [lookup_put, if_neg (by decide +kernel)]; rw [lookup_put, if_neg (by decide +kernel)]; rw [lookup_put, if_neg (by decide +kernel)]; rw [lookup_put, if_neg (by decide +kernel)]; rw [lookup_put, if_neg (by decide +kernel)]; rw [lookup_put, if_neg (by decide +kernel)]; rw [lookup_put, if_neg (by decide +kernel)]; rw [lookup_put, if_neg (by decide +kernel)]; rfl
theorem rF_no_write {v0 v1 v2 v3 v4 v5 v6 v7 v8 v9 : V} : (rF v0 v1 v2 v3 v4 v5 v6 v7 v8 v9).lookup ("write" : Str) = none := by unfold rF; rw [lookup_put, if_neg (by decide +kernel)]; rw [lookup_put, if_neg (by decide +kernel)]; rw [lookup_put, if_neg (by decide +kernel)]; rw [lookup_put, if_neg (by decide +kernel)]; rw [lookup_put, if_neg (by decide +kernel)]; rw [lookup_put, if_neg (by decide +kernel)]; rw [lookup_put, if_neg (by decide +kernel)]; rw [lookup_put, if_neg (by decide +kernel)]; rw [lookup_put, if_neg (by decide +kernel)]; rw [lookup_put, if_neg (by decide +kernel)]; rfl
theorem rF_no_jump {v0 v1 v2 v3 v4 v5 v6 v7 v8 v9 : V} : (rF v0 v1 v2 v3 v4 v5 v6 v7 v8 v9).lookup ("jump" : Str) = none := by unfold rF; rw [lookup_put, if_neg (by decide +kernel)]; rw [lookup_put, if_neg (by decide +kernel)]; rw [lookup_put, if_neg (by decide +kernel)]; rw [lookup_put, if_neg (by decide +kernel)]; rw [lookup_put, if_neg (by decide +kernel)]; rw [lookup_put, if_neg (by decide +kernel)]; rw [lookup_put, if_neg (by decide +kernel)]; rw [lookup_put, if_neg (by decide +kernel)]; rw [lookup_put, if_neg (by decide +kernel)]; rw [lookup_put, if_neg (by decide +kernel)]; rfl
theorem rF_no_enter {v0 v1 v2 v3 v4 v5 v6 v7 v8 v9 : V} : (rF v0 v1 v2 v3 v4 v5 v6 v7 v8 v9).lookup ("enter" : Str) = none := by unfold rF; rw [lookup_put, if_neg (by decide +kernel)]; rw [lookup_put, if_neg (by decide +kernel)]; rw [lookup_put, if_neg (by decide +kernel)]; rw [lookup_put, if_neg (by decide +kernel)]; rw [lookup_put, if_neg (by decide +kernel)]; rw [lookup_put, if_neg (by decide +kernel)]; rw [lookup_put, if_neg (by decide +kernel)]; rw [lookup_put, if_neg (by decide +kernel)]; rw [lookup_put, if_neg (by decide +kernel)]; rw [lookup_put, if_neg (by decide +kernel)]; rfl
theorem rF_no_next_row {v0 v1 v2 v3 v4 v5 v6 v7 v8 v9 : V} : (rF v0 v1 v2 v3 v4 v5 v6 v7 v8 v9).lookup ("next_row" : Str) = none := by unfold rF; rw [lookup_put, if_neg (by decide +kernel)]; rw [lookup_put, if_neg (by decide +kernel)]; rw [lookup_put, if_neg (by decide +kernel)]; rw [lookup_put, if_neg (by decide +kernel)]; rw [lookup_put, if_neg (by decide +kernel)]; rw [lookup_put, if_neg (by decide +kernel)]; rw [lookup_put, if_neg (by decide +kernel)]; rw [lookup_put, if_neg (by decide +kernel)]; rw [lookup_put, if_neg (by decide +kernel)]; rw [lookup_put, if_neg (by decide +kernel)]; rfl
theorem rF_no_not_the_hand {v0 v1 v2 v3 v4 v5 v6 v7 v8 v9 : V} : (rF v0 v1 v2 v3 v4 v5 v6 v7 v8 v9).lookup ("not_the_hand" : Str) = none := by unfold rF; rw [lookup_put, if_neg (by decide +kernel)]; rw [lookup_put, if_neg (by decide +kernel)]; rw [lookup_put, if_neg (by decide +kernel)]; rw [lookup_put, if_neg (by decide +kernel)]; rw [lookup_put, if_neg (by decide +kernel)]; rw [lookup_put, if_neg (by decide +kernel)]; rw [lookup_put, if_neg (by decide +kernel)]; rw [lookup_put, if_neg (by decide +kernel)]; rw [lookup_put, if_neg (by decide +kernel)]; rw [lookup_put, if_neg (by decide +kernel)]; rfl
/-- the object of a run -/
structure RA (CR : Addr) (H : Hp) (x dx m : Addr) (hand : Int) (lp lm lc ls lt : Addr) (as : List Addr) (vw : V) (s : Rn) : Prop where
  hx : H x = some (.ins CR dx (rF (.ref m) (.int hand) (.int s.ring) (.int s.a) (.ref lp) (.ref lm) vw (.ref lc) (.ref ls) (.ref lt)))
  hp : ∃ v, H lp = some (.lst v) ∧ RpAll H v (s.pt.map ptD)
  hm : H lm = some (.lst (as.map V.ref))
  la : as.length = s.me.length
  ha : ∀ (i : Nat) (a : Addr) (ws : List Wd), as[i]? = some a → s.me[i]? = some ws → ∃ v, H a = some (.lst v) ∧ RpAll H v (ws.map Wd.d)
  hw : Rp H vw (whD s.wh)
  hc : ∃ v, H lc = some (.lst v) ∧ RpAll H v (s.ca.map caD)
  hs : ∃ v, H ls = some (.lst v) ∧ RpAll H v (s.st.map stD)
  ht : ∃ v, H lt = some (.lst v) ∧ RpAll H v (s.to.map toD)
  nd : (lp :: lm :: lc :: ls :: lt :: as).Nodup
/-- .. that came behind the heap H0, which stands -/
structure RunAt (CR : Addr) (H0 H : Hp) (x m : Addr) (hand : Int) (s : Rn) : Prop where
  ex : ∃ dx lp lm lc ls lt as vw, RA CR H x dx m hand lp lm lc ls lt as vw s ∧ (∀ a ∈ lp :: lm :: lc :: ls :: lt :: as, H0 a = none)
  nx : H0 x = none
  sm : Same H0 H
section
variable {CR : Addr} {H0 H H' : Hp} {x m : Addr} {hand : Int} {s : Rn}
theorem RA.same {dx lp lm lc ls lt : Addr} {as : List Addr} {vw : V} (R : RA CR H x dx m hand lp lm lc ls lt as vw s) (e : Same H H') : RA CR H' x dx m hand lp lm lc ls lt as vw s where
  hx := e _ _ R.hx
  hp := let ⟨v, h, r⟩ := R.hp; ⟨v, e _ _ h, r.keep (Tk.of e)⟩
  hm := e _ _ R.hm
  la := R.la
  ha := fun i a ws h1 h2 => let ⟨v, h, r⟩ := R.ha i a ws h1 h2; ⟨v, e _ _ h, r.keep (Tk.of e)⟩
  hw := R.hw.keep (Tk.of e)
  hc := let ⟨v, h, r⟩ := R.hc; ⟨v, e _ _ h, r.keep (Tk.of e)⟩
  hs := let ⟨v, h, r⟩ := R.hs; ⟨v, e _ _ h, r.keep (Tk.of e)⟩
  ht := let ⟨v, h, r⟩ := R.ht; ⟨v, e _ _ h, r.keep (Tk.of e)⟩
  nd := R.nd
theorem RunAt.same (R : RunAt CR H0 H x m hand s) (e : Same H H') : RunAt CR H0 H' x m hand s :=
  let ⟨dx, lp, lm, lc, ls, lt, as, vw, r, n⟩ := R.ex; ⟨⟨dx, lp, lm, lc, ls, lt, as, vw, r.same e, n⟩, R.nx, R.sm.trans e⟩
/-- the object itself is changed -/
theorem RA.fld {dx lp lm lc ls lt : Addr} {as : List Addr} {vw vw' : V} {s' : Rn} (R : RA CR H x dx m hand lp lm lc ls lt as vw s) (fs : List (Str × V)) (hf : fs = rF (.ref m) (.int hand) (.int s'.ring) (.int s'.a) (.ref lp) (.ref lm) vw' (.ref lc) (.ref ls) (.ref lt))
    (e1 : s'.pt = s.pt) (e2 : s'.me = s.me) (e3 : s'.ca = s.ca) (e4 : s'.st = s.st) (e5 : s'.to = s.to) (hw : Rp H vw' (whD s'.wh)) : RA CR (upd H x (.ins CR dx fs)) x dx m hand lp lm lc ls lt as vw' s' := by
  have tk : Tk H (upd H x (.ins CR dx fs)) := Tk.ins R.hx
  have ne : ∀ {q : Addr} {v : List V}, H q = some (.lst v) → upd H x (.ins CR dx fs) q = some (.lst v) := fun {q v} h => by rw [upd_ne (ne_of h R.hx (fun z => nomatch z))]; exact h
  subst hf
  refine ⟨upd_same, ?_, ne R.hm, e2 ▸ R.la, ?_, hw.keep tk, ?_, ?_, ?_, R.nd⟩
  · rw [e1]; exact let ⟨v, h, r⟩ := R.hp; ⟨v, ne h, r.keep tk⟩
  · rw [e2]; exact fun i a ws h1 h2 => let ⟨v, h, r⟩ := R.ha i a ws h1 h2; ⟨v, ne h, r.keep tk⟩
  · rw [e3]; exact let ⟨v, h, r⟩ := R.hc; ⟨v, ne h, r.keep tk⟩
  · rw [e4]; exact let ⟨v, h, r⟩ := R.hs; ⟨v, ne h, r.keep tk⟩
  · rw [e5]; exact let ⟨v, h, r⟩ := R.ht; ⟨v, ne h, r.keep tk⟩
theorem same_put {o : HO} {q : Addr} (e : Same H0 H) (n : H0 q = none) : Same H0 (upd H q o) := fun c u h => by rw [upd_ne (ne_of_none h n)]; exact e _ _ h
end
end Rg
namespace Rg
open PySem PySem.Spec L2
section
variable {CR : Addr} {H0 H H' : Hp} {x dx m lp lm lc ls lt : Addr} {hand : Int} {as : List Addr} {vw : V} {s : Rn}
theorem RA.nx (R : RA CR H x dx m hand lp lm lc ls lt as vw s) {q : Addr} {v : List V} (h : H q = some (.lst v)) : q ≠ x := ne_of h R.hx (fun z => nomatch z)
/-- one of the five lists is changed -/
theorem RA.lists (R : RA CR H x dx m hand lp lm lc ls lt as vw s) {q : Addr} {v0 v1 : List V} (hq : H q = some (.lst v0)) (s' : Rn) (er : s'.ring = s.ring) (ea : s'.a = s.a) (ew : s'.wh = s.wh)
    (h1 : lp ≠ q ∧ s'.pt = s.pt ∨ lp = q ∧ RpAll H v1 (s'.pt.map ptD)) (h2 : lm ≠ q) (h3 : lc ≠ q ∧ s'.ca = s.ca ∨ lc = q ∧ RpAll H v1 (s'.ca.map caD)) (h4 : ls ≠ q ∧ s'.st = s.st ∨ ls = q ∧ RpAll H v1 (s'.st.map stD)) (h5 : lt ≠ q ∧ s'.to = s.to ∨ lt = q ∧ RpAll H v1 (s'.to.map toD))
    (h6 : s'.me.length = s.me.length) (h7 : ∀ (i : Nat) (a : Addr) (ws : List Wd), as[i]? = some a → s'.me[i]? = some ws → (a ≠ q ∧ s.me[i]? = some ws) ∨ (a = q ∧ RpAll H v1 (ws.map Wd.d))) :
    RA CR (upd H q (.lst v1)) x dx m hand lp lm lc ls lt as vw s' := by
  have tk : Tk H (upd H q (.lst v1)) := Tk.lst hq
  have one : ∀ {β : Type} {f : β → PyData} {l : Addr} {ys ys' : List β}, (∃ v, H l = some (.lst v) ∧ RpAll H v (ys.map f)) → (l ≠ q ∧ ys' = ys ∨ l = q ∧ RpAll H v1 (ys'.map f)) → ∃ v, upd H q (.lst v1) l = some (.lst v) ∧ RpAll (upd H q (.lst v1)) v (ys'.map f) := fun {β f l ys ys'} h hc => by
    rcases hc with ⟨ne, e⟩ | ⟨e, r⟩
    · obtain ⟨v, a1, a2⟩ := h
      exact ⟨v, (upd_ne ne).trans a1, e ▸ a2.keep tk⟩
    · exact ⟨v1, by rw [e, upd_same], r.keep tk⟩
  refine ⟨?_, one R.hp h1, (upd_ne h2).trans R.hm, R.la.trans h6.symm, fun i a ws e1 e2 => ?_, ew ▸ R.hw.keep tk, one R.hc h3, one R.hs h4, one R.ht h5, R.nd⟩
  · rw [upd_ne (Ne.symm (R.nx hq)), er, ea]
    exact R.hx
  · rcases h7 i a ws e1 e2 with ⟨ne, e⟩ | ⟨e, r⟩
    · obtain ⟨v, b1, b2⟩ := R.ha i a ws e1 e
      exact ⟨v, (upd_ne ne).trans b1, b2.keep tk⟩
    · exact ⟨v1, by rw [e, upd_same], r.keep tk⟩
/-- what the five lists' addresses are not -/
structure Dst (lp lm lc ls lt : Addr) (as : List Addr) : Prop where
  pm : lp ≠ lm
  pc : lp ≠ lc
  ps : lp ≠ ls
  pt : lp ≠ lt
  mc : lm ≠ lc
  ms : lm ≠ ls
  mt : lm ≠ lt
  cs : lc ≠ ls
  ct : lc ≠ lt
  st : ls ≠ lt
  pa : ∀ a ∈ as, a ≠ lp
  ma : ∀ a ∈ as, a ≠ lm
  ca : ∀ a ∈ as, a ≠ lc
  sa : ∀ a ∈ as, a ≠ ls
  ta : ∀ a ∈ as, a ≠ lt
  na : as.Nodup
theorem RA.dst (R : RA CR H x dx m hand lp lm lc ls lt as vw s) : Dst lp lm lc ls lt as := by
  have h := R.nd
  simp only [List.nodup_cons, List.mem_cons, not_or] at h
  obtain ⟨⟨a1, a2, a3, a4, a5⟩, ⟨b1, b2, b3, b4⟩, ⟨c1, c2, c3⟩, ⟨d1, d2⟩, e1, n⟩ := h
  exact ⟨a1, a2, a3, a4, b1, b2, b3, c1, c2, d1, fun a ha e => a5 (e ▸ ha), fun a ha e => b4 (e ▸ ha), fun a ha e => c3 (e ▸ ha), fun a ha e => d2 (e ▸ ha), fun a ha e => e1 (e ▸ ha), n⟩
theorem RA.setC (R : RA CR H x dx m hand lp lm lc ls lt as vw s) {v1 : List V} {ca : List (Int × Option (Int × Int))} (r : RpAll H v1 (ca.map caD)) : RA CR (upd H lc (.lst v1)) x dx m hand lp lm lc ls lt as vw { s with ca := ca } := by
  obtain ⟨v0, h0, _⟩ := R.hc
  have d := R.dst
  exact R.lists h0 _ rfl rfl rfl (.inl ⟨d.pc, rfl⟩) d.mc (.inr ⟨rfl, r⟩) (.inl ⟨d.cs.symm, rfl⟩) (.inl ⟨d.ct.symm, rfl⟩) rfl fun i a ws h1 h2 => .inl ⟨d.ca a (List.mem_of_getElem? h1), h2⟩
theorem RA.setS (R : RA CR H x dx m hand lp lm lc ls lt as vw s) {v1 : List V} {st : List (Int × Int × Int × Int)} (r : RpAll H v1 (st.map stD)) : RA CR (upd H ls (.lst v1)) x dx m hand lp lm lc ls lt as vw { s with st := st } := by
  obtain ⟨v0, h0, _⟩ := R.hs
  have d := R.dst
  exact R.lists h0 _ rfl rfl rfl (.inl ⟨d.ps, rfl⟩) d.ms (.inl ⟨d.cs, rfl⟩) (.inr ⟨rfl, r⟩) (.inl ⟨d.st.symm, rfl⟩) rfl fun i a ws h1 h2 => .inl ⟨d.sa a (List.mem_of_getElem? h1), h2⟩
theorem RA.setT (R : RA CR H x dx m hand lp lm lc ls lt as vw s) {v1 : List V} {to : List (Int × Int × Int × Str)} (r : RpAll H v1 (to.map toD)) : RA CR (upd H lt (.lst v1)) x dx m hand lp lm lc ls lt as vw { s with to := to } := by
  obtain ⟨v0, h0, _⟩ := R.ht
  have d := R.dst
  exact R.lists h0 _ rfl rfl rfl (.inl ⟨d.pt, rfl⟩) d.mt (.inl ⟨d.ct, rfl⟩) (.inl ⟨d.st, rfl⟩) (.inr ⟨rfl, r⟩) rfl fun i a ws h1 h2 => .inl ⟨d.ta a (List.mem_of_getElem? h1), h2⟩
theorem RA.setP (R : RA CR H x dx m hand lp lm lc ls lt as vw s) {v1 : List V} {pt : List Pt} (r : RpAll H v1 (pt.map ptD)) : RA CR (upd H lp (.lst v1)) x dx m hand lp lm lc ls lt as vw { s with pt := pt } := by
  obtain ⟨v0, h0, _⟩ := R.hp
  have d := R.dst
  exact R.lists h0 _ rfl rfl rfl (.inr ⟨rfl, r⟩) d.pm.symm (.inl ⟨d.pc.symm, rfl⟩) (.inl ⟨d.ps.symm, rfl⟩) (.inl ⟨d.pt.symm, rfl⟩) rfl fun i a ws h1 h2 => .inl ⟨d.pa a (List.mem_of_getElem? h1), h2⟩
theorem RA.setM (R : RA CR H x dx m hand lp lm lc ls lt as vw s) {g : Nat} {q : Addr} {v1 : List V} {ws : List Wd} (hq : as[g]? = some q) (r : RpAll H v1 (ws.map Wd.d)) : RA CR (upd H q (.lst v1)) x dx m hand lp lm lc ls lt as vw { s with me := s.me.set g ws } := by
  have hg : g < s.me.length := R.la ▸ (List.getElem?_eq_some_iff.mp hq).1
  obtain ⟨v0, h0, _⟩ := R.ha g q _ hq (List.getElem?_eq_getElem hg)
  have d := R.dst
  have mq := List.mem_of_getElem? hq
  refine R.lists h0 _ rfl rfl rfl (.inl ⟨(d.pa q mq).symm, rfl⟩) (d.ma q mq).symm (.inl ⟨(d.ca q mq).symm, rfl⟩) (.inl ⟨(d.sa q mq).symm, rfl⟩) (.inl ⟨(d.ta q mq).symm, rfl⟩) (by show (s.me.set g ws).length = _; rw [List.length_set]) fun i a ws' h1 h2 => ?_
  have h2' : (s.me.set g ws)[i]? = some ws' := h2
  by_cases e : i = g
  · subst e
    rw [List.getElem?_set_self hg] at h2'
    cases h2'
    rw [hq] at h1
    cases h1
    exact .inr ⟨rfl, r⟩
  · rw [List.getElem?_set_ne (Ne.symm e)] at h2'
    refine .inl ⟨fun z => e ?_, h2'⟩
    have l1 := (List.getElem?_eq_some_iff.mp h1)
    have l2 := (List.getElem?_eq_some_iff.mp hq)
    exact (List.getElem_inj (h₀ := l1.1) (h₁ := l2.1) d.na).mp (l1.2.trans (z.trans l2.2.symm))
/-- a new list of pointers -/
theorem RA.newP (R : RA CR H x dx m hand lp lm lc ls lt as vw s) {lq : Addr} {v1 : List V} {pt : List Pt} (hq : H lq = some (.lst v1)) (r : RpAll H v1 (pt.map ptD)) (h2 : lq ≠ lm) (h3 : lq ≠ lc) (h4 : lq ≠ ls) (h5 : lq ≠ lt) (h6 : lq ∉ as) (fs : List (Str × V))
    (hf : fs = rF (.ref m) (.int hand) (.int s.ring) (.int s.a) (.ref lq) (.ref lm) vw (.ref lc) (.ref ls) (.ref lt)) : RA CR (upd H x (.ins CR dx fs)) x dx m hand lq lm lc ls lt as vw { s with pt := pt } := by
  have tk : Tk H (upd H x (.ins CR dx fs)) := Tk.ins R.hx
  have ne : ∀ {q : Addr} {v : List V}, H q = some (.lst v) → upd H x (.ins CR dx fs) q = some (.lst v) := fun {q v} h => (upd_ne (ne_of h R.hx (fun z => nomatch z))).trans h
  subst hf
  have hn := R.nd
  simp only [List.nodup_cons, List.mem_cons, not_or] at hn ⊢
  exact ⟨upd_same, ⟨v1, ne hq, r.keep tk⟩, ne R.hm, R.la, fun i a ws a1 a2 => let ⟨v, h, r⟩ := R.ha i a ws a1 a2; ⟨v, ne h, r.keep tk⟩, R.hw.keep tk, let ⟨v, h, r⟩ := R.hc; ⟨v, ne h, r.keep tk⟩, let ⟨v, h, r⟩ := R.hs; ⟨v, ne h, r.keep tk⟩, let ⟨v, h, r⟩ := R.ht; ⟨v, ne h, r.keep tk⟩, by
    simp only [List.nodup_cons, List.mem_cons, not_or]
    exact ⟨⟨h2, h3, h4, h5, h6⟩, hn.2⟩⟩
end
/-- what is fixed while a deed is done: the machine -/
structure Mch (C : Addr) (H0 : Hp) (m : Addr) (us : List V) (xs : List Sg) (b : Int) : Prop where
  at_ : MAt C H0 m us b
  rp : RpAll H0 us (xs.map Sg.d)
  l8 : xs.length ≤ 8
  b2 : 2 ≤ b
  ok : ∀ x ∈ xs, SgForm x ∧ sgFits x b xs.length = true
/-- the first call is the hand's, and none other is; and the hand is at it just where no call is left -/
def Stk (w : Option (Int × Int)) (ca : List (Int × Option (Int × Int))) : Prop := (w = none ↔ ca = []) ∧ ∀ (i : Nat) (c : Int × Option (Int × Int)), ca[i]? = some c → (c.2 = none ↔ i = 0)
theorem Stk.nil : Stk none [] := ⟨⟨fun _ => rfl, fun _ => rfl⟩, fun i c h => by simp at h⟩
theorem Stk.push {w : Option (Int × Int)} {ca : List (Int × Option (Int × Int))} (h : Stk w ca) (r : Int) (x : Int × Int) : Stk (some x) (ca ++ [(r, w)]) := by
  refine ⟨⟨fun e => (nomatch e), fun e => by simp at e⟩, fun i c hc => ?_⟩
  by_cases hi : i < ca.length
  · rw [List.getElem?_append_left hi] at hc
    exact h.2 i c hc
  · have e : i = ca.length := by
      have := (List.getElem?_eq_some_iff.mp hc).1
      simp at this
      omega
    subst e
    simp at hc
    subst hc
    show w = none ↔ _
    rw [h.1, List.length_eq_zero_iff]
theorem Stk.pop {w w' : Option (Int × Int)} {ca : List (Int × Option (Int × Int))} {r : Int} (h : Stk w ca) (e : ca.getLast? = some (r, w')) : Stk w' ca.dropLast := by
  have h1 : ca[ca.length - 1]? = some (r, w') := by rw [← List.getLast?_eq_getElem?]; exact e
  have h2 := h.2 _ _ h1
  have hp : ca ≠ [] := fun z => by rw [z] at e; cases e
  have hl : 0 < ca.length := List.length_pos_iff.mpr hp
  refine ⟨h2.trans ⟨fun z => List.length_eq_zero_iff.mp (by rw [List.length_dropLast]; exact z), fun z => by have := congrArg List.length z; rw [List.length_dropLast] at this; exact this⟩, fun i c hc => h.2 i c ?_⟩
  have hi := (List.getElem?_eq_some_iff.mp hc).1
  rw [List.getElem?_dropLast] at hc
  split at hc
  · exact hc
  · cases hc
theorem Stk.at {x y : Int × Int} {ca : List (Int × Option (Int × Int))} (h : Stk (some x) ca) : Stk (some y) ca := ⟨⟨fun e => (nomatch e), fun e => (nomatch h.1.mpr e)⟩, h.2⟩
theorem Stk.ne {x : Int × Int} {ca : List (Int × Option (Int × Int))} (h : Stk (some x) ca) : ca ≠ [] := fun e => (nomatch h.1.mpr e)
/-- what holds of a run's state -/
structure WF (xs : List Sg) (s : Rn) : Prop where
  pt4 : s.pt.length = 4
  ptg : ∀ r g p, some (r, g, p) ∈ s.pt → 0 ≤ g ∧ g < (xs.length : Int) ∧ 0 ≤ p
  me : s.me.length = xs.length
  mw : ∀ ws ∈ s.me, ws.length ≤ 900 ∧ ∀ r g p, Wd.ptr r g p ∈ ws → 0 ≤ g ∧ g < (xs.length : Int) ∧ 0 ≤ p
  wh : ∀ g p, s.wh = some (g, p) → 0 ≤ g ∧ g < (xs.length : Int)
  ca : ∀ c ∈ s.ca, ∀ g p, c.2 = some (g, p) → 0 ≤ g ∧ g < (xs.length : Int)
  c8 : s.ca.length ≤ 8
  s9 : s.st.length ≤ 900
  t9 : s.to.length ≤ 2000
  sk : Stk s.wh s.ca
/-- a fault is let out: the heap is kept -/
def Flt (CF : Addr) (E : XK) (H : Hp) (c : Str) : Prop := ∀ (d : Addr) (H' : Hp), H d = none → H' d = some (.xd [("cause", .str c)]) → Same H H' → E (.ref CF) (some d) H'
/-- the end of a row -/
def RunEnd (CR CF : Addr) (Q : VK) (E : XK) (H0 H : Hp) (x m : Addr) (hand : Int) (res : Rn × Option Str) : Prop := match res.2 with
  | none => ∀ H', RunAt CR H0 H' x m hand res.1 → Tk H H' → Q .non H'
  | some c => ∀ (d : Addr) (H' : Hp), H' d = some (.xd [("cause", .str c)]) → H0 d = none → RunAt CR H0 H' x m hand res.1 → Tk H H' → E (.ref CF) (some d) H'
theorem RunEnd.flt {CR CF : Addr} {Q : VK} {E : XK} {H0 H : Hp} {x m : Addr} {hand : Int} {s : Rn} {c : Str} (h : RunEnd CR CF Q E H0 H x m hand (s, some c)) {H1 : Hp} (R : RunAt CR H0 H1 x m hand s) (tk : Tk H H1) : Flt CF E H1 c := fun d H' hd hx e => h d H' hx (R.sm.free hd) (R.same e) (tk.trans (Tk.of e))
end Rg
namespace Rg
open PySem PySem.Spec L2
/-- the class Fault -/
structure FltC (P : Program) (w : World) (K : PySem.W.Frag) (mg : Str → Option Value) (base : Heap) (CF : Addr) : Prop where
  oex : OexE K CF
  wc : PySem.W.findIn K (.ref CF) "cause" = some none
  mgx : mg "Fault" = some (.ref CF)
  xf : XfC K CF
  ini : ∃ f fd, PySem.W.findIn K (.ref CF) "__init__" = some (some (.ref f)) ∧ PySem.W.typeIn K (.ref f) = some (.type "function") ∧ Binds K fd ["self", "cause"] [] ∧ FnOk P w K mg base CX0 1 f fd ["self", "cause"] (spFE K)
def tRf (CF : Addr) (W : WX) (te : TE) : TS := fun _ σ H => te σ H fun v H1 => ∀ d, H1 d = none → W (.ref CF) (some d) σ (upd H1 d (.xd [("cause", v)]))
theorem ps_fault {X : Cx} {W : WX} {CF : Addr} {e : Expr} {te : TE} {p pos pos' : Pos} (Fc : FltC X.prog X.w X.K X.mg X.base CF) (hc : X.calm = true) (tk : L2N.Takes X W) (hr : Room 2 X.A) (hg : Gl X "Fault") (he : PE X e te)
    (hst : starEach [e] X.env = (false, eval e X.env) :: starEach [] X.env := by rfl) (hpl : (backTo pos (starEach [] X.env)).any (·.1) = false := by rfl) : PS X (.Raise (some (.Call (.Name "Fault" p) [e] [] pos)) none pos') (tRf CF W te) := by
  obtain ⟨f, fd, i1, i2, b, F1⟩ := Fc.ini
  exact L2N.ps_raise hc tk (pmk_fault Fc.oex Fc.wc i1 i2 F1 hr b hg Fc.mgx he (by decide) hst hpl)
theorem rd_rf {CF : Addr} {W : WX} {te : TE} {D : Ends} {σ : L2.St} {H : Hp} (h : te σ H fun v H1 => ∀ d, H1 d = none → W (.ref CF) (some d) σ (upd H1 d (.xd [("cause", v)]))) : tRf CF W te D σ H := h
theorem Flt.here {CF : Addr} {E : XK} {H : Hp} {c : Str} (h : Flt CF E H c) : ∀ d, H d = none → E (.ref CF) (some d) (upd H d (.xd [("cause", .str c)])) := fun d hd => h d _ hd upd_same (same_upd hd)
/-- the class Run -/
structure RCl (K : PySem.W.Frag) (mg : Str → Option Value) (CR : Addr) : Prop where
  cl : Cls K CR
  n_machine : NoAttr K CR "machine"
  n_hand : NoAttr K CR "hand"
  n_ring : NoAttr K CR "ring"
  n_a : NoAttr K CR "a"
  n_pointers : NoAttr K CR "pointers"
  n_memory : NoAttr K CR "memory"
  n_where : NoAttr K CR "where"
  n_calls : NoAttr K CR "calls"
  n_steps : NoAttr K CR "steps"
  n_touches : NoAttr K CR "touches"
  mgC : mg "Run" = some (.ref CR)
structure MthX (P : Program) (w : World) (K : PySem.W.Frag) (mg : Str → Option Value) (base : Heap) (C : Addr) (m : Str) (k : Nat) (ps : List Str) (sp : Sp) : Prop where
  ex : ∃ (f : Addr) (fd : FuncData), Meth K C m f ∧ Binds K fd ps [] ∧ FnOk P w K mg base (L2N.CX P w) k f fd ps sp
structure CalN (P : Program) (w : World) (K : PySem.W.Frag) (mg : Str → Option Value) (base : Heap) (x : Str) (k : Nat) (ps : List Str) (sp : Sp) : Prop where
  ex : ∃ (f : Addr) (fd : FuncData), mg x = some (.ref f) ∧ PySem.W.keepIn K (.ref f) = true ∧ Binds K fd ps [] ∧ FnOk P w K mg base (L2N.CX P w) k f fd ps sp
section
variable {X : Cx} {C : Addr} {k : Nat} {ps : List Str} {sp : Sp} {m x : Str} {pos apos p : Pos} {e o : Expr} {es : List Expr} {t : TA} {ta : TE} {E : XK}
theorem pe_mthE {pl : Sem Bool} (M : MthX X.prog X.w X.K X.mg X.base C m k ps sp) (c : Cls X.K C) (hr : Room k X.A) (tk : L2N.Takes X (fun cls d _ H => E cls d H)) (he : PE X o ta) (ha : PA X (e :: es) t)
    (hst : starEach (e :: es) X.env = (false, eval e X.env) :: starEach es X.env := by rfl) (hpl : (backTo pos (starEach es X.env)).any (·.1) = false := by rfl)
    (ht : eval (.Call (.Attribute o m apos) (e :: es) [] pos) X.env = (do
      let ov ← eval o X.env
      standAt apos.atName
      let (f, first) ← holding [ov] (getMethod ov m pl)
      callWith pos f first (backTo pos (starEach (e :: es) X.env)) (backToKw pos (keywordEach [] X.env))) := by rfl) :
    PE X (.Call (.Attribute o m apos) (e :: es) [] pos) (tMeth C m sp [] E ta t) := by
  obtain ⟨f, fd, hm, hb, F⟩ := M.ex
  exact pe_meth he c hm F hr hb .nil (L2N.passes_call tk fun _ _ _ _ h => h) ha hst hpl ht
theorem pe_mthE0 {pl : Sem Bool} (M : MthX X.prog X.w X.K X.mg X.base C m k ps sp) (c : Cls X.K C) (hr : Room k X.A) (tk : L2N.Takes X (fun cls d _ H => E cls d H)) (he : PE X o ta)
    (ht : eval (.Call (.Attribute o m apos) [] [] pos) X.env = (do
      let ov ← eval o X.env
      standAt apos.atName
      let (f, first) ← holding [ov] (getMethod ov m pl)
      callWith pos f first (backTo pos (starEach [] X.env)) (backToKw pos (keywordEach [] X.env))) := by rfl) :
    PE X (.Call (.Attribute o m apos) [] [] pos) (tMeth C m sp [] E ta tNil) := by
  obtain ⟨f, fd, hm, hb, F⟩ := M.ex
  exact pe_meth0 he c hm F hr hb .nil (L2N.passes_call tk fun _ _ _ _ h => h) ht
theorem pe_calE (Cc : CalN X.prog X.w X.K X.mg X.base x k ps sp) (hr : Room k X.A) (hg : Gl X x) (tk : L2N.Takes X (fun cls d _ H => E cls d H)) (ha : PA X (e :: es) t) (hdb : (x == ("__debug__" : Str)) = false := by decide)
    (he : starEach (e :: es) X.env = (false, eval e X.env) :: starEach es X.env := by rfl) (hpl : (backTo pos (starEach es X.env)).any (·.1) = false := by rfl) :
    PE X (.Call (.Name x p) (e :: es) [] pos) (tCall sp [] E t) := by
  obtain ⟨f, fd, hm, hk, hb, F⟩ := Cc.ex
  exact pe_call F hr hg hm hk hb .nil (L2N.passes_call tk fun _ _ _ _ h => h) ha hdb he hpl
/-- in the body of a try -/
theorem pe_calNS {W : WX} (Cc : CalN X.prog X.w X.K X.mg X.base x k ps sp) (tk : L2N.Takes X W) (hr : Room k X.A) (hg : Gl X x) (ha : PA X (e :: es) t) (hdb : (x == ("__debug__" : Str)) = false := by decide)
    (he : starEach (e :: es) X.env = (false, eval e X.env) :: starEach es X.env := by rfl) (hpl : (backTo pos (starEach es X.env)).any (·.1) = false := by rfl) :
    PE X (.Call (.Name x p) (e :: es) [] pos) (tCallS sp (WE W) t) := by
  obtain ⟨f, fd, hm, hk, hb, F⟩ := Cc.ex
  exact pe_callS F hr hg hm hk hb (fun σ => L2N.passAt tk σ) ha hdb he hpl
end
def spPointer (CR CF : Addr) : Sp := fun vs H Q E => ∃ (H0 : Hp) (x m : Addr) (hand p : Int) (s : Rn), vs = [.ref x, .int p] ∧ RunAt CR H0 H x m hand s ∧ s.pt.length = 4 ∧ 0 ≤ p ∧ p < 4 ∧
  (∀ r g pl, s.ptr p = some (r, g, pl) → ∀ q : Addr, H q = some (.tup [.int r, .int g, .int pl]) → Q (.ref q) H) ∧ (s.ptr p = none → Flt CF E H "pointer")
def spSpot (CR CF : Addr) : Sp := fun vs H Q E => ∃ (H0 : Hp) (x m : Addr) (hand p w : Int) (s : Rn) (xs : List Sg), vs = [.ref x, .int p, .int w] ∧ RunAt CR H0 H x m hand s ∧ WF xs s ∧ 0 ≤ p ∧ p < 4 ∧
  (∀ e g pl, spotR s p w = .ok (e, g, pl) → ∀ (q : Addr) (H' : Hp), H' q = some (.tup [.int e, .int g, .int pl]) → Same H H' → Q (.ref q) H') ∧ (∀ c, spotR s p w = .error c → Flt CF E H c)
def spRead (C CR CF : Addr) : Sp := fun vs H Q E => ∃ (H0 : Hp) (x m : Addr) (us : List V) (xs : List Sg) (b hand p w : Int) (s : Rn), vs = [.ref x, .int p, .int w] ∧ Mch C H0 m us xs b ∧ RunAt CR H0 H x m hand s ∧ WF xs s ∧ 0 ≤ p ∧ p < 4 ∧
  (∀ wd e g s', readR xs s p w = .ok (wd, e, g, s') → ∀ (v : V) (q : Addr) (H' : Hp), H' q = some (.tup [v, .int e, .int g]) → Rp H' v wd.d → RunAt CR H0 H' x m hand s' → Tk H H' → Q (.ref q) H') ∧ (∀ c, readR xs s p w = .error c → Flt CF E H c)
def spWrite (C CR CF : Addr) : Sp := fun vs H Q E => ∃ (H0 : Hp) (x m : Addr) (us : List V) (xs : List Sg) (b hand p w : Int) (v : V) (wd : Wd) (s : Rn), vs = [.ref x, .int p, .int w, v] ∧ Mch C H0 m us xs b ∧ RunAt CR H0 H x m hand s ∧ WF xs s ∧ 0 ≤ p ∧ p < 4 ∧ Rp H v wd.d ∧
  RunEnd CR CF Q E H0 H x m hand (writeR xs s p w wd)
/-- a row's def, by its numbers -/
def spDo (C CR CF : Addr) (fn : List Sg → Int → Rn → List Int → Rn × Option Str) (ok : List Sg → List Int → Prop) : Sp := fun vs H Q E => ∃ (H0 : Hp) (x m : Addr) (us : List V) (xs : List Sg) (b hand : Int) (s : Rn) (ns : List Int), vs = .ref x :: ns.map V.int ∧ Mch C H0 m us xs b ∧ RunAt CR H0 H x m hand s ∧ WF xs s ∧ ok xs ns ∧
  RunEnd CR CF Q E H0 H x m hand (fn xs b s ns)
theorem pt_get {s : Rn} {p : Int} {H : Hp} {v : List V} (r : RpAll H v (s.pt.map ptD)) (h4 : s.pt.length = 4) (p0 : 0 ≤ p) (p4 : p < 4) : ∃ u, atI v p = some u ∧ Rp H u (ptD (s.ptr p)) := by
  have hl : p.toNat < s.pt.length := by omega
  obtain ⟨u, hu, ru⟩ := r.get2 (i := p.toNat) (d := ptD (s.ptr p)) (by
    unfold Rn.ptr
    rw [List.getElem?_map, List.getD_eq_getElem?_getD, List.getElem?_eq_getElem hl]
    rfl)
  exact ⟨u, at_of (by omega) hu, ru⟩
theorem ptD_some {H : Hp} {u : V} {r g p : Int} (h : Rp H u (ptD (some (r, g, p)))) : ∃ q, u = .ref q ∧ H q = some (.tup [.int r, .int g, .int p]) := by
  obtain ⟨q, vs, rfl, hq, ha⟩ := Rp.tup_inv (show Rp H u (.tuple [.int r, .int g, .int p]) from h)
  have e := RpAll.ints_inv (ns := [r, g, p]) ha
  subst e
  exact ⟨q, rfl, hq⟩
end Rg
namespace Rg
open PySem PySem.Spec PyProof.Rows L2 L2H
structure HeldX (P : Program) (w : World) (K : PySem.W.Frag) (mg : Str → Option Value) (base : Heap) (k : Nat) (f : Addr) (sp : Sp) : Prop where
  ex : ∃ (fd : FuncData) (ps : List Str), FnOk P w K mg base (L2N.CX P w) k f fd ps sp ∧ PySem.W.keepIn K (.ref f) = true ∧ Binds K fd ps []
def tCallAX (i : Nat) (E : XK) (G : Addr → Sp → Prop) (t : TA) : TE := fun σ H Q => ∃ f sp, σ[i]? = some (some (.ref f)) ∧ G f sp ∧ t σ H fun vs H1 => sp vs H1 Q E
section
variable {X : Cx} {k i : Nat} {E : XK} {x : Str} {p pos : Pos} {e : Expr} {es : List Expr} {t : TA} {G : Addr → Sp → Prop}
theorem pe_callAX (A : ∀ f sp, G f sp → HeldX X.prog X.w X.K X.mg X.base k f sp) (hr : Room k X.A) (hN : X.N[i]? = some x) (hv : Vis X.env.scope x) (tk : L2N.Takes X (fun cls d _ H => E cls d H)) (ha : PA X (e :: es) t)
    (hdb : (x == ("__debug__" : Str)) = false := by decide) (hcd : (x == ("__classdict__" : Str)) = false := by decide)
    (he : starEach (e :: es) X.env = (false, eval e X.env) :: starEach es X.env := by rfl) (hst : (backTo pos (starEach es X.env)).any (·.1) = true := by rfl) : PE X (.Call (.Name x p) (e :: es) [] pos) (tCallAX i E G t) := by
  refine ⟨fun pins s σ H Q I h => ?_⟩
  obtain ⟨f, sp, hs, hG, ht⟩ := h
  obtain ⟨fd, ps, F, hk, hb⟩ := (A f sp hG).ex
  refine wpAny_Call_Name_kw (thn ((pe_var (pos := p) hN hv hdb hcd).run pins s σ H (fun v H1 => v = .ref f ∧ H1 = H) I ⟨.ref f, hs, rfl, rfl⟩) fun u z ⟨v, H1, I1, r1, q1⟩ => ?_)
  obtain ⟨rfl, rfl⟩ := q1
  cases r1
  refine PySem.W.callWith_S2 (h₀ := X.base) I.ok.mod.kin hk (thn (ha.run pos pins z σ _ _ I1 ht) fun us z2 ⟨vs, H2, I2, r, q⟩ => ⟨I2.kIn, ?_⟩) he hst
  have q0 : sp (vs ++ []) H2 Q E := by rw [List.append_nil]; exact q
  exact run_fn F hr hb .nil (L2N.passes_call tk fun _ _ _ _ h => h) I2 r q0
end
theorem rd_callAX {i : Nat} {E : XK} {G : Addr → Sp → Prop} {t : TA} {σ : L2.St} {H : Hp} {Q : VK} {f : Addr} {sp : Sp} (h1 : σ[i]? = some (some (.ref f))) (h2 : G f sp) (h : t σ H fun vs H1 => sp vs H1 Q E) : tCallAX i E G t σ H Q := ⟨f, sp, h1, h2, h⟩
theorem rd_star {K : PySem.W.Frag} {te : TE} {t : TA} {σ : L2.St} {H : Hp} {R : List V → Hp → Prop} (h : te σ H fun x H1 => ∃ p xs, x = V.ref p ∧ (SqT K H1 p xs ∨ SqL K H1 p xs) ∧ t σ H1 fun ys H2 => R (xs ++ ys) H2) : StX.tStar K te t σ H R := h
/-- o.m() in an except suite -/
theorem pe_methH0 {X : Cx} {CX : CXT} {C f : Addr} {k : Nat} {fd : FuncData} {ps : List Str} {sp : Sp} {m : Str} {o : Expr} {ta : TE} {E : L2.St → XK} {pos apos : Pos} {pl : Sem Bool} (he : PE X o ta) (c : Cls X.K C) (hm : Meth X.K C m f) (F : FnH X.prog X.w X.K X.mg X.base CX k f fd ps sp) (hr : RoomH k X.A) (hc : HotC X) (hb : Binds X.K fd ps []) (hx : ∀ σ, PassesAt CX X σ (E σ))
    (ht : eval (.Call (.Attribute o m apos) [] [] pos) X.env = (do
      let ov ← eval o X.env
      standAt apos.atName
      let (f, first) ← holding [ov] (getMethod ov m pl)
      callWith pos f first (backTo pos (starEach [] X.env)) (backToKw pos (keywordEach [] X.env))) := by rfl) :
    PE X (.Call (.Attribute o m apos) [] [] pos) (tMethH C m sp E ta tNil) := by
  refine ⟨fun pins s σ H Q I h => PySem.W.methodCall_KW (pl := pl) (thn (he.run pins s σ H _ I h) fun u z ⟨x, H1, I1, rx, a, dx, fs, ex, ea, l, q⟩ => ?_) ht⟩
  subst ex
  cases rx
  refine getmeth_ok I1 ea c hm l ?_
  refine PySem.W.callWith_K0 (first := [.ref a]) I1.kIn hm.kp ?_
  exact run_fnH (us := [.ref a]) (vs := [.ref a]) F hr hc hb (hx σ) I1 (.cons rfl .nil) q
theorem rd_methH {C : Addr} {m : Str} {sp : Sp} {E : L2.St → XK} {ta : TE} {t : TA} {σ : L2.St} {H : Hp} {Q : VK} (h : ta σ H fun x H1 => ∃ a dx fs, x = .ref a ∧ H1 a = some (.ins C dx fs) ∧ fs.lookup m = none ∧ t σ H1 fun vs H2 => sp (x :: vs) H2 Q (E σ)) : tMethH C m sp E ta t σ H Q := h
def actOps : List Str := ["set", "add", "load", "store", "fetch", "keep", "aim", "move", "zero", "go", "call", "return"]
/-- the table of the top: each word's def -/
def GAct (K : PySem.W.Frag) (w : World) (mg : Str → Option Value) (af : Str → Addr) : Prop := ∃ a, mg "ACTIONS" = some (.ref a) ∧ ∀ z ∈ actOps, KDct K w a z (.ref (af z))
def tAct (K : PySem.W.Frag) (w : World) (af : Str → Addr) : TE := fun _ H Q => ∀ a, (∀ z ∈ actOps, KDct K w a z (.ref (af z))) → Q (.ref a) H
theorem pe_act {X : Cx} {pos : Pos} {af : Str → Addr} (h : GAct X.K X.w X.mg af) (hg : Gl X "ACTIONS") : PE X (.Name "ACTIONS" pos) (tAct X.K X.w af) := by
  obtain ⟨a, e, q⟩ := h
  have p : PE X (.Name "ACTIONS" pos) (tC (.ref a)) := pe_glob hg e rfl
  exact ⟨fun pins s σ H Q I hw => p.run pins s σ H Q I (hw a q)⟩
theorem ix_dK {X : Cx} {K : PySem.W.Frag} {w : World} (h1 : X.K = K := by rfl) (h2 : X.w = w := by rfl) : IxR X (rIxD K w) := by subst h1 h2; exact ix_kdict
theorem takes0N {X : Cx} : L2N.Takes X (fun _ _ _ _ => False) := fun _ _ ⟨_, _, _, _, _, _, _, _, _, _, _, _, _, _, _, _, w⟩ => w.elim
theorem Fun.okH {CX : CXT} {P : Program} {w : World} {K : PySem.W.Frag} {mg : Str → Option Value} {base : Heap} {x qual : Str} {st : Stmt} {f : Addr} {fd : FuncData} {N ps : List Str} {k : Nat} {sp : Sp} (F : L2.Fun K x qual st f fd) (S : FnScope N ps (defScope st)) (len : ∀ vs H Q E, sp vs H Q E → vs.length = ps.length)
    (body : ∀ (cdv : Value) (A : Around) (outer : List Env) (s : Shared) (H : Hp) (vs : List V) (Q : VK) (E : XK) (p : Addr × Obj), L2H.Hot1 A p → L2H.RoomH k (A.deeper (envOfC qual (defScope st) s.heap.objs.size f cdv)) → sp vs H Q E →
      ∃ t, PSs (L2H.cxH CX P w K mg base N qual (defScope st) f cdv A outer s H E p) (defBody st) t ∧ t { nx := fun _ H' => Q .non H', rt := Q } (L2.start N vs) H) : L2H.FnH P w K mg base CX (k + 1) f fd ps sp := by
  obtain ⟨oc, od, kV, doc, pm, an, cdv, ct, osl, rfl, lk, hcd⟩ := F.ex
  exact L2H.fn_ofH lk hcd S len fun A outer s H vs Q E p ht hr h => body cdv A outer s H vs Q E p ht hr h
end Rg
namespace Rg
open PySem PySem.Spec PyProof.Rows L2
def wF (v0 v1 v2 v3 v4 v5 v6 v7 v8 : V) : List (Key × V) := [((Sum.inr ("segments" : Str) : Key), v0), ((Sum.inr ("base" : Str) : Key), v1), ((Sum.inr ("ring" : Str) : Key), v2), ((Sum.inr ("a" : Str) : Key), v3), ((Sum.inr ("pointers" : Str) : Key), v4), ((Sum.inr ("calls" : Str) : Key), v5), ((Sum.inr ("memory" : Str) : Key), v6), ((Sum.inr ("at" : Str) : Key), v7), ((Sum.inr ("touches" : Str) : Key), v8)]
/-- the world while the hand is at it -/
structure WA (H : Hp) (wd L : Addr) (b : Int) (lp lc lm lt : Addr) (as : List Addr) (s : Rn) : Prop where
  hx : H wd = some (.dK (wF (.ref L) (.int b) (.int s.ring) (.int s.a) (.ref lp) (.ref lc) (.ref lm) .non (.ref lt)))
  hp : ∃ v, H lp = some (.lst v) ∧ RpAll H v (s.pt.map ptD)
  hc : H lc = some (.lst [])
  hm : H lm = some (.lst (as.map V.ref))
  la : as.length = s.me.length
  ha : ∀ (i : Nat) (a : Addr) (ws : List Wd), as[i]? = some a → s.me[i]? = some ws → ∃ v, H a = some (.lst v) ∧ RpAll H v (ws.map Wd.d)
  ht : ∃ v, H lt = some (.lst v) ∧ RpAll H v (s.to.map toD)
  nd : (lp :: lc :: lm :: lt :: as).Nodup
section
variable {H H' : Hp} {wd L lp lc lm lt : Addr} {b : Int} {as : List Addr} {s : Rn}
theorem WA.same (R : WA H wd L b lp lc lm lt as s) (e : Same H H') : WA H' wd L b lp lc lm lt as s where
  hx := e _ _ R.hx
  hp := let ⟨v, h, r⟩ := R.hp; ⟨v, e _ _ h, r.keep (Tk.of e)⟩
  hc := e _ _ R.hc
  hm := e _ _ R.hm
  la := R.la
  ha := fun i a ws h1 h2 => let ⟨v, h, r⟩ := R.ha i a ws h1 h2; ⟨v, e _ _ h, r.keep (Tk.of e)⟩
  ht := let ⟨v, h, r⟩ := R.ht; ⟨v, e _ _ h, r.keep (Tk.of e)⟩
  nd := R.nd
theorem Tk.dct {q : Addr} {o : HO} {kvs : List (Key × V)} (h : H q = some (.dK kvs)) : Tk H (upd H q o) := fun c xs e => by rw [upd_ne (ne_of e h (fun z => nomatch z))]; exact e
theorem WA.wne (R : WA H wd L b lp lc lm lt as s) {q : Addr} {v : List V} (h : H q = some (.lst v)) : q ≠ wd := ne_of h R.hx (fun z => nomatch z)
theorem WA.setT (R : WA H wd L b lp lc lm lt as s) {v1 : List V} {to : List (Int × Int × Int × Str)} (r : RpAll H v1 (to.map toD)) : WA (upd H lt (.lst v1)) wd L b lp lc lm lt as { s with to := to } := by
  obtain ⟨v0, h0, _⟩ := R.ht
  have tk : Tk H (upd H lt (.lst v1)) := Tk.lst h0
  have hn := R.nd
  simp only [List.nodup_cons, List.mem_cons, not_or] at hn
  obtain ⟨⟨a1, a2, a3, a4⟩, ⟨b1, b2, b3⟩, ⟨c1, c2⟩, d1, n⟩ := hn
  exact ⟨(upd_ne (Ne.symm (R.wne h0))).trans R.hx, let ⟨v, h, r⟩ := R.hp; ⟨v, (upd_ne a3).trans h, r.keep tk⟩, (upd_ne b2).trans R.hc, (upd_ne c1).trans R.hm, R.la, fun i a ws h1 h2 => let ⟨v, h, r⟩ := R.ha i a ws h1 h2; ⟨v, (upd_ne (show a ≠ lt from fun z => d1 (z ▸ List.mem_of_getElem? h1))).trans h, r.keep tk⟩, ⟨v1, upd_same, r.keep tk⟩, R.nd⟩
theorem WA.setM (R : WA H wd L b lp lc lm lt as s) {g : Nat} {q : Addr} {v1 : List V} {ws : List Wd} (hq : as[g]? = some q) (r : RpAll H v1 (ws.map Wd.d)) : WA (upd H q (.lst v1)) wd L b lp lc lm lt as { s with me := s.me.set g ws } := by
  have hg : g < s.me.length := R.la ▸ (List.getElem?_eq_some_iff.mp hq).1
  obtain ⟨v0, h0, _⟩ := R.ha g q _ hq (List.getElem?_eq_getElem hg)
  have tk : Tk H (upd H q (.lst v1)) := Tk.lst h0
  have hn := R.nd
  simp only [List.nodup_cons, List.mem_cons, not_or] at hn
  obtain ⟨⟨a1, a2, a3, a4⟩, ⟨b1, b2, b3⟩, ⟨c1, c2⟩, d1, n⟩ := hn
  have mq := List.mem_of_getElem? hq
  refine ⟨(upd_ne (Ne.symm (R.wne h0))).trans R.hx, let ⟨v, h, r⟩ := R.hp; ⟨v, (upd_ne (show lp ≠ q from fun z => a4 (z.symm ▸ mq))).trans h, r.keep tk⟩, (upd_ne (show lc ≠ q from fun z => b3 (z.symm ▸ mq))).trans R.hc, (upd_ne (show lm ≠ q from fun z => c2 (z.symm ▸ mq))).trans R.hm, by show as.length = (s.me.set g ws).length; rw [List.length_set]; exact R.la, fun i a ws' h1 h2 => ?_, let ⟨v, h, r⟩ := R.ht; ⟨v, (upd_ne (show lt ≠ q from fun z => d1 (z.symm ▸ mq))).trans h, r.keep tk⟩, R.nd⟩
  have h2' : (s.me.set g ws)[i]? = some ws' := h2
  by_cases e : i = g
  · subst e
    rw [List.getElem?_set_self hg] at h2'
    cases h2'
    rw [hq] at h1
    cases h1
    exact ⟨v1, upd_same, r.keep tk⟩
  · rw [List.getElem?_set_ne (Ne.symm e)] at h2'
    obtain ⟨v, e1, e2⟩ := R.ha i a ws' h1 h2'
    refine ⟨v, (upd_ne fun z => e ?_).trans e1, e2.keep tk⟩
    have l1 := (List.getElem?_eq_some_iff.mp h1)
    have l2 := (List.getElem?_eq_some_iff.mp hq)
    exact (List.getElem_inj (h₀ := l1.1) (h₁ := l2.1) n).mp (l1.2.trans (z.trans l2.2.symm))
end
end Rg
namespace Rg
open PySem PySem.Spec PyProof.Rows L2
theorem mx2 {a b : Int} : nuMax2 (.int a) (.int b) = some (.int (mx a b)) := by
  have h : nuLt (.int a) (.int b) = some (decide (a < b)) := rfl
  unfold nuMax2 mx
  rw [h]
  by_cases c : a < b
  · rw [decide_eq_true c, if_pos (show b > a from c)]; rfl
  · rw [decide_eq_false c, if_neg (show ¬ b > a from c)]; rfl
theorem mx3 {a b c : Int} : nuMax3 (.int a) (.int b) (.int c) = some (.int (mx (mx a b) c)) := by
  unfold nuMax3
  rw [mx2]
  exact mx2
theorem rd_max3 {a b c : Int} {H : Hp} {Q : VK} (h : Q (.int (mx (mx a b) c)) H) : rNuC3 nuMax3 [.int a, .int b, .int c] H Q := ⟨_, _, _, _, rfl, mx3, h⟩
section
variable {H H' : Hp} {wd L lp lc lm lt : Addr} {b : Int} {as : List Addr} {s : Rn}
theorem WA.setP (R : WA H wd L b lp lc lm lt as s) {v1 : List V} {pt : List Pt} (r : RpAll H v1 (pt.map ptD)) : WA (upd H lp (.lst v1)) wd L b lp lc lm lt as { s with pt := pt } := by
  obtain ⟨v0, h0, _⟩ := R.hp
  have tk : Tk H (upd H lp (.lst v1)) := Tk.lst h0
  have hn := R.nd
  simp only [List.nodup_cons, List.mem_cons, not_or] at hn
  obtain ⟨⟨a1, a2, a3, a4⟩, ⟨b1, b2, b3⟩, ⟨c1, c2⟩, d1, n⟩ := hn
  exact ⟨(upd_ne (Ne.symm (R.wne h0))).trans R.hx, ⟨v1, upd_same, r.keep tk⟩, (upd_ne (Ne.symm a1)).trans R.hc, (upd_ne (Ne.symm a2)).trans R.hm, R.la, fun i a ws h1 h2 => let ⟨v, h, r⟩ := R.ha i a ws h1 h2; ⟨v, (upd_ne (show a ≠ lp from fun z => a4 (z ▸ List.mem_of_getElem? h1))).trans h, r.keep tk⟩, let ⟨v, h, r⟩ := R.ht; ⟨v, (upd_ne (Ne.symm a3)).trans h, r.keep tk⟩, R.nd⟩
end
end Rg
namespace Rg
open PySem PySem.Spec PyProof.Rows L2
/-- where the rows run: None, or a list of two -/
def AtV (H : Hp) (no : List Addr) (va : V) : Option (Int × Int) → Prop
  | none => va = .non
  | some (g, p) => ∃ q, va = .ref q ∧ H q = some (.lst [.int g, .int p]) ∧ q ∉ no
def CaAll (H : Hp) (no : List Addr) : List V → List (Int × Option (Int × Int)) → Prop
  | [], [] => True
  | u :: v, c :: r => (∃ q va, u = .ref q ∧ H q = some (.tup [.int c.1, va]) ∧ AtV H no va c.2) ∧ CaAll H no v r
  | _, _ => False
theorem AtV.keep {H H' : Hp} {no no' : List Addr} {va : V} (h : ∀ q v, H q = some (.lst v) → q ∉ no → H' q = some (.lst v) ∧ q ∉ no') : ∀ {w : Option (Int × Int)}, AtV H no va w → AtV H' no' va w
  | none, e => e
  | some (_, _), ⟨q, e, h1, h2⟩ => ⟨q, e, (h q _ h1 h2).1, (h q _ h1 h2).2⟩
theorem CaAll.keep {H H' : Hp} {no no' : List Addr} (h : ∀ q v, H q = some (.lst v) → q ∉ no → H' q = some (.lst v) ∧ q ∉ no') (tk : Tk H H') : ∀ {v : List V} {ca : List (Int × Option (Int × Int))}, CaAll H no v ca → CaAll H' no' v ca
  | [], [], _ => trivial
  | _ :: _, _ :: _, ⟨⟨q, va, e, h1, h2⟩, t⟩ => ⟨⟨q, va, e, tk _ _ h1, h2.keep h⟩, CaAll.keep h tk t⟩
  | [], _ :: _, h => h.elim
  | _ :: _, [], h => h.elim
theorem CaAll.len {H : Hp} {no : List Addr} : ∀ {v : List V} {ca : List (Int × Option (Int × Int))}, CaAll H no v ca → v.length = ca.length
  | [], [], _ => rfl
  | _ :: _, _ :: _, ⟨_, t⟩ => by rw [List.length_cons, List.length_cons, t.len]
  | [], _ :: _, h => h.elim
  | _ :: _, [], h => h.elim
theorem CaAll.snoc {H : Hp} {no : List Addr} {u : V} {c : Int × Option (Int × Int)} (hu : ∃ q va, u = .ref q ∧ H q = some (.tup [.int c.1, va]) ∧ AtV H no va c.2) : ∀ {v : List V} {ca : List (Int × Option (Int × Int))}, CaAll H no v ca → CaAll H no (v ++ [u]) (ca ++ [c])
  | [], [], _ => ⟨hu, trivial⟩
  | _ :: _, _ :: _, ⟨h, t⟩ => ⟨h, t.snoc hu⟩
  | [], _ :: _, h => h.elim
  | _ :: _, [], h => h.elim
/-- the world while a deed is done -/
structure WG (H : Hp) (wd L : Addr) (b : Int) (lp lc lm lt : Addr) (as : List Addr) (va : V) (s : Rn) : Prop where
  hx : H wd = some (.dK (wF (.ref L) (.int b) (.int s.ring) (.int s.a) (.ref lp) (.ref lc) (.ref lm) va (.ref lt)))
  hp : ∃ v, H lp = some (.lst v) ∧ RpAll H v (s.pt.map ptD)
  hc : ∃ v, H lc = some (.lst v) ∧ CaAll H (lp :: lc :: lm :: lt :: as) v s.ca
  hm : H lm = some (.lst (as.map V.ref))
  la : as.length = s.me.length
  ha : ∀ (i : Nat) (a : Addr) (ws : List Wd), as[i]? = some a → s.me[i]? = some ws → ∃ v, H a = some (.lst v) ∧ RpAll H v (ws.map Wd.d)
  ht : ∃ v, H lt = some (.lst v) ∧ RpAll H v (s.to.map toD)
  nd : (lp :: lc :: lm :: lt :: as).Nodup
  hv : AtV H (lp :: lc :: lm :: lt :: as) va s.wh
section
variable {H H' : Hp} {wd L lp lc lm lt : Addr} {b : Int} {as : List Addr} {va : V} {s : Rn}
theorem WG.same (R : WG H wd L b lp lc lm lt as va s) (e : Same H H') : WG H' wd L b lp lc lm lt as va s where
  hx := e _ _ R.hx
  hp := let ⟨v, h, r⟩ := R.hp; ⟨v, e _ _ h, r.keep (Tk.of e)⟩
  hc := let ⟨v, h, r⟩ := R.hc; ⟨v, e _ _ h, r.keep (fun q v h n => ⟨e _ _ h, n⟩) (Tk.of e)⟩
  hm := e _ _ R.hm
  la := R.la
  ha := fun i a ws h1 h2 => let ⟨v, h, r⟩ := R.ha i a ws h1 h2; ⟨v, e _ _ h, r.keep (Tk.of e)⟩
  ht := let ⟨v, h, r⟩ := R.ht; ⟨v, e _ _ h, r.keep (Tk.of e)⟩
  nd := R.nd
  hv := R.hv.keep fun q v h n => ⟨e _ _ h, n⟩
theorem WG.wne (R : WG H wd L b lp lc lm lt as va s) {q : Addr} {v : List V} (h : H q = some (.lst v)) : q ≠ wd := ne_of h R.hx (fun z => nomatch z)
/-- one of the lists becomes another -/
theorem WG.lists (R : WG H wd L b lp lc lm lt as va s) {q : Addr} {v0 v1 : List V} (hq : H q = some (.lst v0)) (hn : q ∈ lp :: lc :: lm :: lt :: as) (s' : Rn) (er : s'.ring = s.ring) (ea : s'.a = s.a) (ew : s'.wh = s.wh) (el : s'.me.length = s.me.length)
    (h1 : (q = lp ∧ RpAll H v1 (s'.pt.map ptD)) ∨ (q ≠ lp ∧ s'.pt = s.pt)) (h2 : (q = lc ∧ CaAll H (lp :: lc :: lm :: lt :: as) v1 s'.ca) ∨ (q ≠ lc ∧ s'.ca = s.ca)) (h3 : q ≠ lm) (h4 : (q = lt ∧ RpAll H v1 (s'.to.map toD)) ∨ (q ≠ lt ∧ s'.to = s.to))
    (h5 : ∀ (i : Nat) (a : Addr) (ws : List Wd), as[i]? = some a → s'.me[i]? = some ws → (a = q ∧ RpAll H v1 (ws.map Wd.d)) ∨ (a ≠ q ∧ s.me[i]? = some ws)) : WG (upd H q (.lst v1)) wd L b lp lc lm lt as va s' := by
  have tk : Tk H (upd H q (.lst v1)) := Tk.lst hq
  have kp : ∀ c v, H c = some (.lst v) → c ∉ lp :: lc :: lm :: lt :: as → upd H q (.lst v1) c = some (.lst v) ∧ c ∉ lp :: lc :: lm :: lt :: as := fun c v h n => ⟨(upd_ne fun (z : c = q) => n (by rw [z]; exact hn)).trans h, n⟩
  refine ⟨?_, ?_, ?_, (upd_ne (Ne.symm h3)).trans R.hm, R.la.trans el.symm, fun i a ws e1 e2 => ?_, ?_, R.nd, ?_⟩
  · rw [er, ea]
    exact (upd_ne (Ne.symm (R.wne hq))).trans R.hx
  · rcases h1 with ⟨rfl, h⟩ | ⟨h, e⟩
    · exact ⟨v1, upd_same, h.keep tk⟩
    · obtain ⟨v, e1, r⟩ := R.hp
      rw [e]
      exact ⟨v, (upd_ne (Ne.symm h)).trans e1, r.keep tk⟩
  · rcases h2 with ⟨rfl, h⟩ | ⟨h, e⟩
    · exact ⟨v1, upd_same, h.keep kp tk⟩
    · obtain ⟨v, e1, r⟩ := R.hc
      rw [e]
      exact ⟨v, (upd_ne (Ne.symm h)).trans e1, r.keep kp tk⟩
  · rcases h5 i a ws e1 e2 with ⟨rfl, h⟩ | ⟨h, e⟩
    · exact ⟨v1, upd_same, h.keep tk⟩
    · obtain ⟨v, e3, r⟩ := R.ha i a ws e1 e
      exact ⟨v, (upd_ne h).trans e3, r.keep tk⟩
  · rcases h4 with ⟨rfl, h⟩ | ⟨h, e⟩
    · exact ⟨v1, upd_same, h.keep tk⟩
    · obtain ⟨v, e1, r⟩ := R.ht
      rw [e]
      exact ⟨v, (upd_ne (Ne.symm h)).trans e1, r.keep tk⟩
  · rw [ew]
    exact R.hv.keep kp
theorem WG.setT (R : WG H wd L b lp lc lm lt as va s) {v1 : List V} {to : List (Int × Int × Int × Str)} (r : RpAll H v1 (to.map toD)) : WG (upd H lt (.lst v1)) wd L b lp lc lm lt as va { s with to := to } := by
  obtain ⟨v0, h0, _⟩ := R.ht
  have hn := R.nd
  simp only [List.nodup_cons, List.mem_cons, not_or] at hn
  obtain ⟨⟨a1, a2, a3, a4⟩, ⟨b1, b2, b3⟩, ⟨c1, c2⟩, d1, n⟩ := hn
  exact R.lists h0 (by simp) _ rfl rfl rfl rfl (.inr ⟨Ne.symm a3, rfl⟩) (.inr ⟨Ne.symm b2, rfl⟩) (Ne.symm c1) (.inl ⟨rfl, r⟩) fun i a ws e1 e2 => .inr ⟨fun z => d1 (z ▸ List.mem_of_getElem? e1), e2⟩
theorem WG.setP (R : WG H wd L b lp lc lm lt as va s) {v1 : List V} {pt : List Pt} (r : RpAll H v1 (pt.map ptD)) : WG (upd H lp (.lst v1)) wd L b lp lc lm lt as va { s with pt := pt } := by
  obtain ⟨v0, h0, _⟩ := R.hp
  have hn := R.nd
  simp only [List.nodup_cons, List.mem_cons, not_or] at hn
  obtain ⟨⟨a1, a2, a3, a4⟩, ⟨b1, b2, b3⟩, ⟨c1, c2⟩, d1, n⟩ := hn
  exact R.lists h0 (by simp) _ rfl rfl rfl rfl (.inl ⟨rfl, r⟩) (.inr ⟨a1, rfl⟩) a2 (.inr ⟨a3, rfl⟩) fun i a ws e1 e2 => .inr ⟨fun z => a4 (z ▸ List.mem_of_getElem? e1), e2⟩
theorem WG.setC (R : WG H wd L b lp lc lm lt as va s) {v1 : List V} {ca : List (Int × Option (Int × Int))} (r : CaAll H (lp :: lc :: lm :: lt :: as) v1 ca) : WG (upd H lc (.lst v1)) wd L b lp lc lm lt as va { s with ca := ca } := by
  obtain ⟨v0, h0, _⟩ := R.hc
  have hn := R.nd
  simp only [List.nodup_cons, List.mem_cons, not_or] at hn
  obtain ⟨⟨a1, a2, a3, a4⟩, ⟨b1, b2, b3⟩, ⟨c1, c2⟩, d1, n⟩ := hn
  exact R.lists h0 (by simp) _ rfl rfl rfl rfl (.inr ⟨Ne.symm a1, rfl⟩) (.inl ⟨rfl, r⟩) b1 (.inr ⟨b2, rfl⟩) fun i a ws e1 e2 => .inr ⟨fun z => b3 (z ▸ List.mem_of_getElem? e1), e2⟩
theorem WG.setM (R : WG H wd L b lp lc lm lt as va s) {g : Nat} {q : Addr} {v1 : List V} {ws : List Wd} (hq : as[g]? = some q) (r : RpAll H v1 (ws.map Wd.d)) : WG (upd H q (.lst v1)) wd L b lp lc lm lt as va { s with me := s.me.set g ws } := by
  have hg : g < s.me.length := R.la ▸ (List.getElem?_eq_some_iff.mp hq).1
  obtain ⟨v0, h0, _⟩ := R.ha g q _ hq (List.getElem?_eq_getElem hg)
  have hn := R.nd
  simp only [List.nodup_cons, List.mem_cons, not_or] at hn
  obtain ⟨⟨a1, a2, a3, a4⟩, ⟨b1, b2, b3⟩, ⟨c1, c2⟩, d1, n⟩ := hn
  have mq := List.mem_of_getElem? hq
  refine R.lists h0 (by simp [mq]) _ rfl rfl rfl (by show (s.me.set g ws).length = s.me.length; rw [List.length_set]) (.inr ⟨fun z => a4 (z ▸ mq), rfl⟩) (.inr ⟨fun z => b3 (z ▸ mq), rfl⟩) (fun z => c2 (z ▸ mq)) (.inr ⟨fun z => d1 (z ▸ mq), rfl⟩) fun i a ws' h1 h2 => ?_
  have h2' : (s.me.set g ws)[i]? = some ws' := h2
  by_cases e : i = g
  · subst e
    rw [List.getElem?_set_self hg] at h2'
    cases h2'
    rw [hq] at h1
    cases h1
    exact .inl ⟨rfl, r⟩
  · rw [List.getElem?_set_ne (Ne.symm e)] at h2'
    refine .inr ⟨fun z => e ?_, h2'⟩
    have l1 := (List.getElem?_eq_some_iff.mp h1)
    have l2 := (List.getElem?_eq_some_iff.mp hq)
    exact (List.getElem_inj (h₀ := l1.1) (h₁ := l2.1) n).mp (l1.2.trans (z.trans l2.2.symm))
/-- the dict becomes another -/
theorem WG.dict (R : WG H wd L b lp lc lm lt as va s) (s' : Rn) {va' : V} (ep : s'.pt = s.pt) (ec : s'.ca = s.ca) (em : s'.me = s.me) (et : s'.to = s.to) (hv : AtV H (lp :: lc :: lm :: lt :: as) va' s'.wh) :
    WG (upd H wd (.dK (wF (.ref L) (.int b) (.int s'.ring) (.int s'.a) (.ref lp) (.ref lc) (.ref lm) va' (.ref lt)))) wd L b lp lc lm lt as va' s' := by
  have tk : Tk H (upd H wd (.dK (wF (.ref L) (.int b) (.int s'.ring) (.int s'.a) (.ref lp) (.ref lc) (.ref lm) va' (.ref lt)))) := Tk.dct R.hx
  have ne : ∀ {q : Addr} {v : List V}, H q = some (.lst v) → upd H wd (.dK (wF (.ref L) (.int b) (.int s'.ring) (.int s'.a) (.ref lp) (.ref lc) (.ref lm) va' (.ref lt))) q = some (.lst v) := fun {q v} h => (upd_ne (ne_of h R.hx (fun z => nomatch z))).trans h
  exact ⟨upd_same, let ⟨v, h, r⟩ := R.hp; ⟨v, ne h, ep ▸ r.keep tk⟩, let ⟨v, h, r⟩ := R.hc; ⟨v, ne h, ec ▸ r.keep (fun q v h n => ⟨ne h, n⟩) tk⟩, ne R.hm, em ▸ R.la, fun i a ws h1 h2 => let ⟨v, h, r⟩ := R.ha i a ws h1 (em ▸ h2); ⟨v, ne h, r.keep tk⟩, let ⟨v, h, r⟩ := R.ht; ⟨v, ne h, et ▸ r.keep tk⟩, R.nd, hv.keep fun q v h n => ⟨ne h, n⟩⟩
/-- the pointers become another list -/
theorem WG.newP (R : WG H wd L b lp lc lm lt as va s) {lq : Addr} {v1 : List V} {pt : List Pt} (hq : H lq = some (.lst v1)) (r : RpAll H v1 (pt.map ptD)) (h2 : lq ∉ lp :: lc :: lm :: lt :: as) (hc : ∃ v, H lc = some (.lst v) ∧ CaAll H (lq :: lc :: lm :: lt :: as) v s.ca) (hv : AtV H (lq :: lc :: lm :: lt :: as) va s.wh) :
    WG (upd H wd (.dK (wF (.ref L) (.int b) (.int s.ring) (.int s.a) (.ref lq) (.ref lc) (.ref lm) va (.ref lt)))) wd L b lq lc lm lt as va { s with pt := pt } := by
  have tk : Tk H (upd H wd (.dK (wF (.ref L) (.int b) (.int s.ring) (.int s.a) (.ref lq) (.ref lc) (.ref lm) va (.ref lt)))) := Tk.dct R.hx
  have ne : ∀ {q : Addr} {v : List V}, H q = some (.lst v) → upd H wd (.dK (wF (.ref L) (.int b) (.int s.ring) (.int s.a) (.ref lq) (.ref lc) (.ref lm) va (.ref lt))) q = some (.lst v) := fun {q v} h => (upd_ne (ne_of h R.hx (fun z => nomatch z))).trans h
  have hn := R.nd
  simp only [List.mem_cons, not_or] at h2
  refine ⟨upd_same, ⟨v1, ne hq, r.keep tk⟩, let ⟨v, h, r⟩ := hc; ⟨v, ne h, r.keep (fun q v h n => ⟨ne h, n⟩) tk⟩, ne R.hm, R.la, fun i a ws h1 h2 => let ⟨v, h, r⟩ := R.ha i a ws h1 h2; ⟨v, ne h, r.keep tk⟩, let ⟨v, h, r⟩ := R.ht; ⟨v, ne h, r.keep tk⟩, ?_, hv.keep fun q v h n => ⟨ne h, n⟩⟩
  have hn' := (List.nodup_cons.mp hn).2
  refine List.nodup_cons.mpr ⟨?_, hn'⟩
  simp only [List.mem_cons, not_or]
  exact h2.2
end
structure WGt (H0 H : Hp) (wd L : Addr) (b : Int) (s : Rn) : Prop where
  ex : ∃ lp lc lm lt as va, WG H wd L b lp lc lm lt as va s ∧ ∀ a ∈ wd :: lp :: lc :: lm :: lt :: as, H0 a = none
  sm : Same H0 H
theorem WGt.same {H0 H H' : Hp} {wd L : Addr} {b : Int} {s : Rn} (R : WGt H0 H wd L b s) (e : Same H H') : WGt H0 H' wd L b s :=
  let ⟨lp, lc, lm, lt, as, va, r, n⟩ := R.ex; ⟨⟨lp, lc, lm, lt, as, va, r.same e, n⟩, R.sm.trans e⟩
end Rg
namespace Rg
open PySem PySem.Spec PyProof.Rows L2
/-- a deed that an error may be made with -/
def RblD (v : V) (H : Hp) : Prop := ∃ (p : Addr) (op : Str) (ns : List Int), v = .ref p ∧ H p = some (.tup (.str op :: ns.map V.int)) ∧ (∀ c ∈ op.cps.toList, c < 16 ^ 8) ∧ op.length ≤ 10 ∧ ns.length ≤ 4 ∧ ∀ n ∈ ns, n.natAbs.log2 < 1920
theorem RblD.same {v : V} {H H' : Hp} (h : RblD v H) (s : Same H H') : RblD v H' := by
  obtain ⟨p, op, ns, e, hp, a, b, c, d⟩ := h
  exact ⟨p, op, ns, e, s _ _ hp, a, b, c, d⟩
theorem form_small {op l : Str} (h : formOf op = some l) : (∀ c ∈ op.cps.toList, c < 16 ^ 8) ∧ op.length ≤ 10 ∧ l.cps.size ≤ 3 := by
  have hm := form_mem h
  simp only [rowForms, List.mem_cons, List.mem_nil_iff, or_false, Prod.mk.injEq] at hm
  rcases hm with ⟨rfl, rfl⟩ | ⟨rfl, rfl⟩ | ⟨rfl, rfl⟩ | ⟨rfl, rfl⟩ | ⟨rfl, rfl⟩ | ⟨rfl, rfl⟩ | ⟨rfl, rfl⟩ | ⟨rfl, rfl⟩ | ⟨rfl, rfl⟩ | ⟨rfl, rfl⟩ | ⟨rfl, rfl⟩ | ⟨rfl, rfl⟩ <;> exact ⟨by decide +kernel, by decide +kernel, by decide +kernel⟩
/-- a drawn row in the heap -/
theorem RblD.of {H : Hp} {v : V} {r : Rw} (h : Rp H v r.d) (hf : RwForm r) (hb : ∀ n ∈ r.ns, n.natAbs.log2 < 1920) : RblD v H := by
  obtain ⟨op, ns⟩ := r
  obtain ⟨p, vs, rfl, hp, ha⟩ := h.tup_inv
  obtain ⟨y0, yr, rfl, z0, ha1⟩ := ha.cons_inv
  have e0 := z0.str_inv; subst e0
  have e1 := RpAll.ints_inv (ns := ns) ha1; subst e1
  obtain ⟨l, hl, hs⟩ := hf
  obtain ⟨a1, a2, a3⟩ := form_small hl
  have hs' : l.cps.size = ns.length := hs
  exact ⟨p, op, ns, rfl, hp, a1, a2, by omega, hb⟩
section
variable {X : Cx} {CX : CXT} {k : Nat} {f : Addr} {fd : FuncData} {ps : List Str} {sp : Sp} {E : L2.St → XK} {x : Str} {p pos : Pos} {e : Expr} {es : List Expr} {t : TA} {ds : List Value} {dvs : List V}
/-- a call in a try, with what is left out -/
def tCallSd (sp : Sp) (dvs : List V) (E : L2.St → XK) (t : TA) : TE := fun σ H Q => t σ H fun vs H1 => sp (vs ++ dvs) H1 Q (E σ)
theorem pe_callSd (F : FnOk X.prog X.w X.K X.mg X.base CX k f fd ps sp) (hr : Room k X.A) (hg : Gl X x) (hm : X.mg x = some (.ref f)) (hk : PySem.W.keepIn X.K (.ref f) = true) (hb : Binds X.K fd ps ds) (hd : Vals dvs ds) (hx : ∀ σ, PassesAt CX X σ (E σ))
    (ha : PA X (e :: es) t) (hdb : (x == ("__debug__" : Str)) = false := by decide) (he : starEach (e :: es) X.env = (false, eval e X.env) :: starEach es X.env := by rfl) (hpl : (backTo pos (starEach es X.env)).any (·.1) = false := by rfl) :
    PE X (.Call (.Name x p) (e :: es) [] pos) (tCallSd sp dvs E t) := by
  refine ⟨fun pins s σ H Q I h => ?_⟩
  refine wpAny_Call_Name_kw (ld_glob I hg hm ?_ hdb)
  refine PySem.W.callWith_K (h₀ := X.base) I.ok.mod.kin hk (thn (ha.run pos pins s σ H _ I h) fun us s1 ⟨vs, H1, I1, r, q⟩ => ⟨I1.kIn, ?_⟩) he hpl
  have r2 : Vals (vs ++ dvs) (us ++ ds) := r.append hd
  have hl : (us ++ ds).length = ps.length := by rw [← r2.length]; exact F.len _ _ _ _ q
  refine wpAny_call (codeAny_mono (F.run X.A X.stack s1 H1 ⟨us, []⟩ (us ++ ds) (vs ++ dvs) Q (E σ) hr I1.env0 (hb s1 us I1.kIn hl) r2 q) fun r s' hq => ?_)
  cases r with
  | error e => exact hx σ pins H1 s1 e s' I1 hq
  | ok fl =>
    cases fl with
    | ret u => exact I1.after hq
    | next => exact False.elim hq
    | brk => exact False.elim hq
    | cont => exact False.elim hq
theorem rd_callSd {σ : L2.St} {H : Hp} {Q : VK} (h : t σ H fun vs H1 => sp (vs ++ dvs) H1 Q (E σ)) : tCallSd sp dvs E t σ H Q := h
end
end Rg
namespace Rg
open PySem PySem.Spec PyProof.Rows L2
mutual
/-- data of numbers, texts, None and tuples of such in the heap is a key -/
theorem nk_is {P : Program} {w : World} {H : Hp} {h : Heap} (ok : HOk P w H h) : ∀ (k : NestedKey) {v : V} {u : Value}, Rp H v k.data → RelV v u → NestedIs h k u
  | .none, v, u, r, e => by
    have r' : Rp H v PyData.none := r
    cases r'
    obtain rfl : u = Value.none := e
    exact .none
  | .num i, v, u, r, e => by
    have r' : Rp H v (PyData.int i) := r
    cases r'
    obtain ⟨t, rfl⟩ := e
    exact .int i t
  | .text x, v, u, r, e => by
    have r' : Rp H v (PyData.str x) := r
    cases r'
    obtain ⟨t, rfl⟩ := e
    exact .text x t
  | .tup ks, v, u, r, e => by
    have r' : Rp H v (PyData.tuple (NestedKey.datas ks)) := r
    obtain ⟨p, xs, rfl, hp, ha⟩ := r'.tup_inv
    obtain rfl : u = Value.ref p := e
    obtain ⟨_, its, rv, o, h1, h2, n, h3⟩ := (show ObjOk P w H h p (.tup xs) from ok p _ hp)
    exact .tup h1 h2 h3 (nk_all ok ks ha rv)
theorem nk_all {P : Program} {w : World} {H : Hp} {h : Heap} (ok : HOk P w H h) : ∀ (ks : List NestedKey) {vs : List V} {us : List Value}, RpAll H vs (NestedKey.datas ks) → Vals vs us → NestedAll h ks us
  | [], vs, us, r, e => by
    have r' : RpAll H vs [] := r
    cases r'
    cases e
    exact .nil
  | k :: ks, vs, us, r, e => by
    have r' : RpAll H vs (k.data :: NestedKey.datas ks) := r
    cases r' with
    | cons r1 r2 =>
      cases e with
      | cons e1 e2 => exact .cons (nk_is ok k r1 e1) (nk_all ok ks r2 e2)
end
/-- an entry: the key, where its tuple stands, the value -/
abbrev NE := NestedKey × Addr × V
def REnt (x : NE) (y : NestedKey × Addr × Value) : Prop := x.1 = y.1 ∧ x.2.1 = y.2.1 ∧ RelV x.2.2 y.2.2
def dN (P : Program) (w : World) (a : Addr) (xs : List NE) : HO := .ext fun h => (a == sysModules) = false ∧ xs.length ≤ sizeLine ∧ ∃ ys : List (NestedKey × Addr × Value), Paired REnt xs ys ∧ ∃ o es ep, h.get? a = some o ∧ o.ExactDict ∧ o.data = .dict es ep ∧ es.toList = ys.map (entryOfKey (nestedKind P w)) ∧ (ys.map (·.1)).Nodup
def KeysN (H : Hp) (xs : List NE) : Prop := ∀ x ∈ xs, Rp H (.ref x.2.1) x.1.data ∧ x.1.depth ≤ 8
theorem KeysN.keep {H H' : Hp} {xs : List NE} (h : KeysN H xs) (k : Tk H H') : KeysN H' xs := fun x hx => ⟨(h x hx).1.keep k, (h x hx).2⟩
theorem KeysN.snoc {H : Hp} {xs : List NE} {k : NestedKey} {q : Addr} {v : V} (h : KeysN H xs) (r : Rp H (.ref q) k.data) (hd : k.depth ≤ 8) : KeysN H (xs ++ [(k, q, v)]) := fun x hx => by
  rcases List.mem_append.mp hx with h' | h'
  · exact h x h'
  · rw [List.mem_singleton.mp h']
    exact ⟨r, hd⟩
def valN (xs : List NE) (k : NestedKey) : Option V := (xs.find? fun x => decide (x.1 = k)).map (·.2.2)
theorem at_N {k : NestedKey} : ∀ {xs : List NE} {ys : List (NestedKey × Addr × Value)}, Paired REnt xs ys → (∃ v p, valN xs k = some v ∧ atKey ys k = some p ∧ RelV v p.2) ∨ (valN xs k = none ∧ atKey ys k = none)
  | _, _, .nil => .inr ⟨rfl, rfl⟩
  | _, _, @Paired.cons _ _ _ x y xs ys r t => by
    by_cases h : x.1 = k
    · have hy : y.1 = k := r.1 ▸ h
      refine .inl ⟨x.2.2, y.2, ?_, ?_, r.2.2⟩
      · unfold valN
        simp [h]
      · unfold atKey
        simp [hy]
    · have hy : ¬ y.1 = k := fun e => h (r.1.trans e)
      have e1 : valN (x :: xs) k = valN xs k := by
        unfold valN
        simp [h]
      have e2 : atKey (y :: ys) k = atKey ys k := by
        unfold atKey
        simp [hy]
      rw [e1, e2]
      exact at_N t
theorem isSome_N {k : NestedKey} {xs : List NE} {ys : List (NestedKey × Addr × Value)} (h : Paired REnt xs ys) : (atKey ys k).isSome = (valN xs k).isSome := by
  rcases at_N (k := k) h with ⟨v, p, e1, e2, _⟩ | ⟨e1, e2⟩
  · rw [e1, e2]; rfl
  · simp [e1, e2]
theorem keys_is {P : Program} {w : World} {H : Hp} {h : Heap} (ok : HOk P w H h) : ∀ {xs : List NE} {ys : List (NestedKey × Addr × Value)}, Paired REnt xs ys → KeysN H xs → ∀ y ∈ ys, (nestedKind P w).is h y.1 y.2.1
  | _, _, .nil, _ => fun y hy => nomatch hy
  | _, _, @Paired.cons _ _ _ x y xs ys r t, ks => fun z hz => by
    rcases List.mem_cons.mp hz with rfl | hz
    · obtain ⟨k1, k2⟩ := ks x List.mem_cons_self
      refine ⟨?_, by rw [← r.1]; exact k2⟩
      rw [← r.1, ← r.2.1]
      exact nk_is ok _ k1 rfl
    · exact keys_is ok t (fun q hq => ks q (List.mem_cons_of_mem _ hq)) z hz
theorem dn_of {P : Program} {w : World} {H : Hp} {h : Heap} {a : Addr} {xs : List NE} (ok : HOk P w H h) (e : H a = some (dN P w a xs)) (ks : KeysN H xs) : (a == sysModules) = false ∧ xs.length ≤ sizeLine ∧ ∃ ys, Paired REnt xs ys ∧ h.DictOfH (nestedKind P w) a ys := by
  obtain ⟨⟨h1, h2, ys, h3, o, es, ep, g1, g2, g3, g4, g5⟩, _, _⟩ := (show ObjOk P w H h a (dN P w a xs) from ok a _ e)
  exact ⟨h1, h2, ys, h3, o, es, ep, g1, g2, g3, g4, keys_is ok h3 ks, g5⟩
theorem dn_ok {P : Program} {w : World} {H : Hp} {h : Heap} {a : Addr} {xs : List NE} {ys : List (NestedKey × Addr × Value)} (h1 : (a == sysModules) = false) (h2 : xs.length ≤ sizeLine) (h3 : Paired REnt xs ys) (d : h.DictOfH (nestedKind P w) a ys) : ObjOk P w H h a (dN P w a xs) := by
  obtain ⟨o, es, ep, g1, g2, g3, g4, _, g5⟩ := d
  refine ⟨⟨h1, h2, ys, h3, o, es, ep, g1, g2, g3, g4, g5⟩, ⟨o, g1⟩, ?_⟩
  rintro ha hb ⟨k1, k2, zs, k3, o', es', ep', f1, f2, f3, f4, f5⟩ keep
  exact ⟨k1, k2, zs, k3, o', es', ep', keep _ f1, f2, f3, f4, f5⟩
section
variable {X : Cx}
/-- k in d -/
def rInN (P : Program) (w : World) : R2 := fun x y H Q => ∃ (q a : Addr) (k : NestedKey) (xs : List NE), x = .ref q ∧ y = .ref a ∧ H a = some (dN P w a xs) ∧ KeysN H xs ∧ Rp H (.ref q) k.data ∧ k.depth ≤ 8 ∧ Q (.bl (valN xs k).isSome) H
def rNotInN (P : Program) (w : World) : R2 := fun x y H Q => ∃ (q a : Addr) (k : NestedKey) (xs : List NE), x = .ref q ∧ y = .ref a ∧ H a = some (dN P w a xs) ∧ KeysN H xs ∧ Rp H (.ref q) k.data ∧ k.depth ≤ 8 ∧ Q (.bl (!(valN xs k).isSome)) H
theorem room8 {A : Around} (hu : A.units + 64 < cLine) {P : Program} {w : World} : (nestedKind P w).room A.in1 := by
  show A.in1.units + 8 < cLine
  rw [Around.in1_units]
  omega
theorem op_inN (hu : X.A.units + 64 < cLine) {P : Program} {w : World} (h1 : X.prog = P := by rfl) (h2 : X.w = w := by rfl) : OpR X (compareOp .In) (rInN P w) := by
  subst h1 h2
  intro pins s σ H x y v u Q I rx ry h
  obtain ⟨q, a, k, xs, rfl, rfl, e, ks, rk, dk, hq⟩ := h
  obtain rfl : v = Value.ref q := rx
  obtain rfl : u = Value.ref a := ry
  obtain ⟨hd, _, ys, pr, dd⟩ := dn_of I.hok e ks
  refine wpAny_in_heap (room8 hu) (⟨nk_is I.hok k rk rfl, dk⟩ : (nestedKind X.prog X.w).is s.heap k q) hd dd ?_
  rw [isSome_N pr]
  exact ⟨.bl _, H, I.tok _, rfl, hq⟩
theorem op_notInN (hu : X.A.units + 64 < cLine) {P : Program} {w : World} (h1 : X.prog = P := by rfl) (h2 : X.w = w := by rfl) : OpR X (compareOp .NotIn) (rNotInN P w) := by
  subst h1 h2
  intro pins s σ H x y v u Q I rx ry h
  obtain ⟨q, a, k, xs, rfl, rfl, e, ks, rk, dk, hq⟩ := h
  obtain rfl : v = Value.ref q := rx
  obtain rfl : u = Value.ref a := ry
  obtain ⟨hd, _, ys, pr, dd⟩ := dn_of I.hok e ks
  refine wpAny_notIn_heap (room8 hu) (⟨nk_is I.hok k rk rfl, dk⟩ : (nestedKind X.prog X.w).is s.heap k q) hd dd ?_
  rw [isSome_N pr]
  exact ⟨.bl _, H, I.tok _, rfl, hq⟩
/-- d[k], there -/
def rIxN (P : Program) (w : World) : R2 := fun x y H Q => ∃ (q a : Addr) (k : NestedKey) (xs : List NE) (v : V), x = .ref a ∧ y = .ref q ∧ H a = some (dN P w a xs) ∧ KeysN H xs ∧ Rp H (.ref q) k.data ∧ k.depth ≤ 8 ∧ valN xs k = some v ∧ Q v H
theorem ix_dN (hu : X.A.units + 64 < cLine) {P : Program} {w : World} (h1 : X.prog = P := by rfl) (h2 : X.w = w := by rfl) : IxR X (rIxN P w) := by
  subst h1 h2
  intro value slice pins s σ H x y v u Q I rx ry h hs
  obtain ⟨q, a, k, xs, z, rfl, rfl, e, ks, rk, dk, hv, hq⟩ := h
  obtain rfl : v = Value.ref a := rx
  obtain rfl : u = Value.ref q := ry
  obtain ⟨hd, _, ys, pr, dd⟩ := dn_of I.hok e ks
  rcases at_N (k := k) pr with ⟨v', p, e1, e2, rv⟩ | ⟨e1, _⟩
  · rw [hv] at e1
    cases e1
    exact tail_any dd.typeIs slot_dict_getitem.lookup (wpAny_getItem_heap (room8 hu) (⟨nk_is I.hok k rk rfl, dk⟩ : (nestedKind X.prog X.w).is s.heap k q) dd e2 ⟨z, H, I.tok _, rv, hq⟩) hs
  · rw [hv] at e1
    cases e1
/-- d[k] = v, a new key -/
def rSetN (P : Program) (w : World) : TSet := fun o i v H Q => ∃ (q a : Addr) (k : NestedKey) (xs : List NE), o = .ref a ∧ i = .ref q ∧ H a = some (dN P w a xs) ∧ KeysN H xs ∧ Rp H (.ref q) k.data ∧ k.depth ≤ 8 ∧ valN xs k = none ∧ xs.length ≤ 1000 ∧ Q (upd H a (dN P w a (xs ++ [(k, q, v)])))
theorem set_dN (hu : X.A.units + 64 < cLine) {P : Program} {w : World} (h1 : X.prog = P := by rfl) (h2 : X.w = w := by rfl) : PSet X (rSetN P w) := by
  subst h1 h2
  intro pins s σ H o i v ov iv u Q I ro ri rv h
  obtain ⟨q, a, k, xs, rfl, rfl, e, ks, rk, dk, hv, hl, hq⟩ := h
  obtain rfl : ov = Value.ref a := ro
  obtain rfl : iv = Value.ref q := ri
  obtain ⟨hd, hz, ys, pr, dd⟩ := dn_of I.hok e ks
  have e2 : atKey ys k = none := by
    rcases at_N (k := k) pr with ⟨v', p, e1, _, _⟩ | ⟨_, e2⟩
    · rw [hv] at e1
      cases e1
    · exact e2
  refine wpAny_setItem_heap (hsz := by rw [← Paired.length pr]; exact hz) (room8 hu) (⟨nk_is I.hok k rk rfl, dk⟩ : (nestedKind X.prog X.w).is s.heap k q) dd fun h' dd' hs => ?_
  have he : ∃ z, h'.get? a = some z := let ⟨z, _, _, hz, _⟩ := dd'; ⟨z, hz⟩
  rw [storedH_new e2] at dd'
  refine ⟨_, d_write I (by rw [e]; exact True.intro) hs he (dn_ok hd ?_ (Paired.snoc pr ⟨rfl, rfl, rv⟩) dd'), hq⟩
  rw [List.length_append, sizeLine_eq]
  show xs.length + 1 ≤ _
  omega
/-- {k: v} -/
def tDispN (P : Program) (w : World) (tk tv : TE) : TE := fun σ H Q => ∀ p, H p = none → tk σ (upd H p (dN P w p [])) fun x H1 => tv σ H1 fun y H2 => ∃ (q : Addr) (k : NestedKey), x = .ref q ∧ H2 p = some (dN P w p []) ∧ Rp H2 (.ref q) k.data ∧ k.depth ≤ 8 ∧ Q (.ref p) (upd H2 p (dN P w p [(k, q, y)]))
theorem pe_dispN {pos : Pos} {e1 e2 : Expr} {tk tv : TE} (hu : X.A.units + 64 < cLine) (he1 : PE X e1 tk) (he2 : PE X e2 tv) {P : Program} {w : World} (h1 : X.prog = P := by rfl) (h2 : X.w = w := by rfl) : PE X (.Dict [some e1] [e2] pos) (tDispN P w tk tv) := by
  subst h1 h2
  refine ⟨fun pins s σ H Q I q => ?_⟩
  have hn := I.hok.fresh (Nat.le_refl s.heap.objs.size)
  have I1 := I.laid (a := s.heap.objs.size) (o := dN X.prog X.w s.heap.objs.size []) (h' := s.heap.push { cls := .type "dict", data := .dict #[] }) (t' := s.toks) (fun _ _ q => Heap.get?_push_of_some _ q) (Nat.le_refl _)
    (dn_ok (beq_eq_false_iff_ne.mpr (Ne.symm (Nat.ne_of_lt I.big))) (Nat.zero_le _) .nil (Heap.DictOfH.new s.heap))
  have one : wpAny (model X.prog X.w) X.A (evalPairs (pairTrees [some e1] [e2] X.env pos)) (fun vs s2 => ∃ ps, CarriesH (nestedKind X.prog X.w) s2.heap vs ps ∧ s2.heap.DictOfH (nestedKind X.prog X.w) s.heap.objs.size [] ∧
      ∀ h' tk, h'.DictOfH (nestedKind X.prog X.w) s.heap.objs.size (storedAllH [] ps) → Heap.SameBut s.heap.objs.size s2.heap h' → EP X pins σ Q (.ref s.heap.objs.size) { s2 with heap := h', toks := tk }) X.xe { s with heap := s.heap.push { cls := .type "dict", data := .dict #[] } } := by
    refine pairTrees_cons_walk (thn (he1.run pins _ σ _ _ I1 (q _ hn)) fun u s1 ⟨x, H1, I1, rx, q1⟩ => thn (he2.run pins s1 σ H1 _ I1 q1) fun w2 s2 ⟨y, H2, I2, ry, q2⟩ => pairTrees_nil_walk ?_)
    obtain ⟨r, k, rfl, e, rk, dk, q3⟩ := q2
    obtain rfl : u = Value.ref r := rx
    obtain ⟨hd, _, ys, pr, dd⟩ := dn_of I2.hok e (fun z hz => nomatch hz)
    cases pr
    refine ⟨[(k, r, w2)], ⟨rfl, rfl, ⟨nk_is I2.hok k rk rfl, dk⟩, trivial⟩, dd, fun h' tk' dd' hs => ⟨.ref s.heap.objs.size, _, ?_, rfl, q3⟩⟩
    have he : ∃ z, h'.get? s.heap.objs.size = some z := let ⟨z, _, _, hz, _⟩ := dd'; ⟨z, hz⟩
    exact d_write I2 (by rw [e]; exact True.intro) hs he (dn_ok hd (by show 1 ≤ sizeLine; decide) (.cons ⟨rfl, rfl, ry⟩ .nil) dd')
  have hz := zip_pairTrees [some e1] [e2] X.env pos rfl rfl
  have hp : pairTrees [some e1] [e2] X.env pos ≠ [] := fun z => nomatch (congrArg List.length z)
  rw [arm_eval_Dict, hz, dictDisplay_pairs _ hp (by show 1 < 17; decide)]
  refine wpAny_bind (wpAny_standAt (wpAny_bind (wpAny_subDictH (knd := nestedKind X.prog X.w) (by show X.A.units + 8 < cLine; omega) (by show 1 ≤ 15; decide) (thn one fun vs s2 z => ?_))))
  obtain ⟨ps, c, dd, k⟩ := z
  exact ⟨ps, c, dd, fun h' tk a b => wpAny_pure (k h' tk a b)⟩
end
mutual
theorem nk_eqv : ∀ (a b : NestedKey), PyData.eqv a.data b.data = NestedKey.beq a b
  | .none, .none => rfl
  | .num i, .num j => by
    show (i == j) = decide (i = j)
    by_cases h : i = j <;> simp [h]
  | .text x, .text y => by
    show (x == y) = decide (x = y)
    by_cases h : x = y <;> simp [h]
  | .tup xs, .tup ys => nk_eqvs xs ys
  | .none, .num _ | .none, .text _ | .none, .tup _ => rfl
  | .num _, .none | .num _, .text _ | .num _, .tup _ => rfl
  | .text _, .none | .text _, .num _ | .text _, .tup _ => rfl
  | .tup _, .none | .tup _, .num _ | .tup _, .text _ => rfl
theorem nk_eqvs : ∀ (a b : List NestedKey), PyData.eqvAll (NestedKey.datas a) (NestedKey.datas b) = NestedKey.beqAll a b
  | [], [] => rfl
  | x :: xs, y :: ys => by
    show (PyData.eqv x.data y.data && PyData.eqvAll (NestedKey.datas xs) (NestedKey.datas ys)) = (NestedKey.beq x y && NestedKey.beqAll xs ys)
    rw [nk_eqv x y, nk_eqvs xs ys]
  | [], _ :: _ => rfl
  | _ :: _, [] => rfl
end
theorem datas_map {α : Type} (f : α → NestedKey) (g : α → PyData) (h : ∀ x, (f x).data = g x) : ∀ l : List α, NestedKey.datas (l.map f) = l.map g
  | [] => rfl
  | x :: l => by
    show (f x).data :: NestedKey.datas (l.map f) = g x :: l.map g
    rw [h x, datas_map f g h l]
theorem depths_map {α : Type} (f : α → NestedKey) (n : Nat) (h : ∀ x, (f x).depth ≤ n) : ∀ l : List α, NestedKey.depthAll (l.map f) ≤ n
  | [] => Nat.zero_le _
  | x :: l => by
    have h1 := h x
    have h2 := depths_map f n h l
    show max (f x).depth (NestedKey.depthAll (l.map f)) ≤ n
    omega
def wdK : Wd → NestedKey
  | .num n => .tup [.text "num", .num n]
  | .ptr r s p => .tup [.text "ptr", .num r, .num s, .num p]
def ptK : Pt → NestedKey
  | none => .none
  | some (r, s, p) => .tup [.num r, .num s, .num p]
def wsK (ws : List Wd) : NestedKey := .tup (ws.map wdK)
def Sd.k (s : Sd) : NestedKey := .tup [.num s.ring, .num s.a, .tup (s.pt.map ptK), .tup (s.me.map wsK)]
theorem wdK_d : ∀ x : Wd, (wdK x).data = x.d
  | .num _ => rfl
  | .ptr _ _ _ => rfl
theorem ptK_d : ∀ x : Pt, (ptK x).data = ptD x
  | none => rfl
  | some (_, _, _) => rfl
theorem wsK_d (ws : List Wd) : (wsK ws).data = .tuple (ws.map Wd.d) := congrArg PyData.tuple (datas_map wdK Wd.d wdK_d ws)
theorem Sd.k_d (s : Sd) : s.k.data = s.d := by
  show PyData.tuple [.int s.ring, .int s.a, .tuple (NestedKey.datas (s.pt.map ptK)), .tuple (NestedKey.datas (s.me.map wsK))] = s.d
  rw [datas_map ptK ptD ptK_d, datas_map wsK _ wsK_d]
  rfl
theorem Sd.k_depth (s : Sd) : s.k.depth ≤ 8 := by
  have h1 : ∀ x, (wdK x).depth ≤ 1 := fun x => by cases x <;> exact (by decide : (1 : Nat) ≤ 1)
  have h2 : ∀ x, (ptK x).depth ≤ 1 := fun x => by
    match x with
    | none => exact Nat.zero_le _
    | some (_, _, _) => exact Nat.le_refl _
  have h3 : ∀ x, (wsK x).depth ≤ 2 := fun x => Nat.succ_le_succ (depths_map wdK 1 h1 x)
  have a := depths_map ptK 1 h2 s.pt
  have b := depths_map wsK 2 h3 s.me
  show max 0 (max 0 (max (NestedKey.depthAll (s.pt.map ptK) + 1) (max (NestedKey.depthAll (s.me.map wsK) + 1) 0))) + 1 ≤ 8
  omega
theorem wdK_inj : ∀ {x y : Wd}, wdK x = wdK y → x = y
  | .num _, .num _, h => by cases h; rfl
  | .ptr _ _ _, .ptr _ _ _, h => by cases h; rfl
  | .num _, .ptr _ _ _, h => by simp [wdK] at h
  | .ptr _ _ _, .num _, h => by simp [wdK] at h
theorem ptK_inj : ∀ {x y : Pt}, ptK x = ptK y → x = y
  | none, none, _ => rfl
  | some (_, _, _), some (_, _, _), h => by cases h; rfl
  | none, some (_, _, _), h => by simp [ptK] at h
  | some (_, _, _), none, h => by simp [ptK] at h
theorem map_inj {α β : Type} {f : α → β} (h : ∀ {x y}, f x = f y → x = y) : ∀ {a b : List α}, a.map f = b.map f → a = b
  | [], [], _ => rfl
  | x :: a, y :: b, e => by
    rw [List.map_cons, List.map_cons] at e
    injection e with e1 e2
    rw [h e1, map_inj h e2]
  | [], _ :: _, e => by simp at e
  | _ :: _, [], e => by simp at e
theorem Sd.k_inj {s t : Sd} (h : s.k = t.k) : s = t := by
  obtain ⟨r, a, p, m⟩ := s
  obtain ⟨r', a', p', m'⟩ := t
  unfold Sd.k at h
  simp only [NestedKey.tup.injEq, List.cons.injEq, NestedKey.num.injEq, and_true] at h
  obtain ⟨h1, h2, h3, h4⟩ := h
  have e3 := map_inj ptK_inj h3
  have e4 := map_inj (f := wsK) (fun {x y} e => map_inj wdK_inj (by unfold wsK at e; injection e)) h4
  rw [h1, h2, e3, e4]
theorem Sd.eqv (s t : Sd) : PyData.eqv s.d t.d = decide (s.k = t.k) := by
  rw [← s.k_d, ← t.k_d, nk_eqv, NestedKey.decide_eq]
def fF (v0 v1 v2 v3 : V) : List (Str × V) := [("limit", v0), ("things", v1), ("ways", v2), ("taken", v3)]
theorem fF_limit {v0 v1 v2 v3 : V} : (fF v0 v1 v2 v3).lookup ("limit" : Str) = some v0 := by unfold fF; rw [lookup_put, if_pos rfl]
theorem fF_things {v0 v1 v2 v3 : V} : (fF v0 v1 v2 v3).lookup ("things" : Str) = some v1 := by unfold fF; rw [lookup_put, if_neg (by decide +kernel)]; rw [lookup_put, if_pos rfl]
theorem fF_ways {v0 v1 v2 v3 : V} : (fF v0 v1 v2 v3).lookup ("ways" : Str) = some v2 := by unfold fF; rw [lookup_put, if_neg (by decide +kernel)]; rw [lookup_put, if_neg (by decide +kernel)]; rw [lookup_put, if_pos rfl]
theorem fF_taken {v0 v1 v2 v3 : V} : (fF v0 v1 v2 v3).lookup ("taken" : Str) = some v3 := by unfold fF; rw [lookup_put, if_neg (by decide +kernel)]; rw [lookup_put, if_neg (by decide +kernel)]; rw [lookup_put, if_neg (by decide +kernel)]; rw [lookup_put, if_pos rfl]
theorem putf_taken {v0 v1 v2 v3 y : V} : putF "taken" y (fF v0 v1 v2 v3) = fF v0 v1 v2 y := by unfold fF putF; rw [if_neg (by decide +kernel)]; unfold putF; rw [if_neg (by decide +kernel)]; unfold putF; rw [if_neg (by decide +kernel)]; unfold putF; rw [if_pos rfl]
theorem putg_limit {v0 : V} : putF ("limit" : Str) v0 ([] : List (Str × V)) = ([("limit", v0)] : List (Str × V)) := by rfl
theorem putg_things {v0 v1 : V} : putF ("things" : Str) v1 ([("limit", v0)] : List (Str × V)) = ([("limit", v0), ("things", v1)] : List (Str × V)) := by unfold putF; rw [if_neg (by decide +kernel)]; rfl
theorem putg_ways {v0 v1 v2 : V} : putF ("ways" : Str) v2 ([("limit", v0), ("things", v1)] : List (Str × V)) = ([("limit", v0), ("things", v1), ("ways", v2)] : List (Str × V)) := by unfold putF; rw [if_neg (by decide +kernel)]; unfold putF; rw [if_neg (by decide +kernel)]; rfl
theorem putg_taken {v0 v1 v2 v3 : V} : putF ("taken" : Str) v3 ([("limit", v0), ("things", v1), ("ways", v2)] : List (Str × V)) = ([("limit", v0), ("things", v1), ("ways", v2), ("taken", v3)] : List (Str × V)) := by unfold putF; rw [if_neg (by decide +kernel)]; unfold putF; rw [if_neg (by decide +kernel)]; unfold putF; rw [if_neg (by decide +kernel)]; rfl
structure FiC (K : PySem.W.Frag) (mg : Str → Option Value) (C : Addr) : Prop where
  cl : Cls K C
  n_limit : NoAttr K C "limit"
  n_things : NoAttr K C "things"
  n_ways : NoAttr K C "ways"
  n_taken : NoAttr K C "taken"
  mgC : mg "Finds" = some (.ref C)
structure Th where
  k : NestedKey
  q : Addr
  wl : Addr
  ns : List Int
def Th.e (t : Th) : NE := (t.k, t.q, .ref t.wl)
/-- a Finds stands at x: its things and ways, and how many were taken -/
structure FAt (P : Program) (w : World) (C : Addr) (H0 H : Hp) (x : Addr) (lim : Int) (ts : List Th) (tk : Nat) : Prop where
  ex : ∃ dx ls D, H x = some (.ins C dx (fF (.int lim) (.ref ls) (.ref D) (.int tk))) ∧ H ls = some (.lst (ts.map fun t => V.ref t.q)) ∧ H D = some (dN P w D (ts.map Th.e)) ∧ H0 x = none ∧ H0 ls = none ∧ H0 D = none ∧
    ∀ t ∈ ts, H t.wl = some (.lst (t.ns.map V.int)) ∧ H0 t.wl = none ∧ t.wl ≠ ls
  ks : ∀ t ∈ ts, Rp H (.ref t.q) t.k.data ∧ t.k.depth ≤ 8
  sm : Same H0 H
  nd : (ts.map Th.k).Nodup
theorem FAt.keys {P : Program} {w : World} {C : Addr} {H0 H : Hp} {x : Addr} {lim : Int} {ts : List Th} {tk : Nat} (F : FAt P w C H0 H x lim ts tk) : KeysN H (ts.map Th.e) := fun z hz => by
  obtain ⟨t, ht, rfl⟩ := List.mem_map.mp hz
  exact F.ks t ht
theorem FAt.same {P : Program} {w : World} {C : Addr} {H0 H H' : Hp} {x : Addr} {lim : Int} {ts : List Th} {tk : Nat} (F : FAt P w C H0 H x lim ts tk) (s : Same H H') : FAt P w C H0 H' x lim ts tk := by
  obtain ⟨⟨dx, ls, D, h1, h2, h3, n1, n2, n3, h4⟩, h5, h6, h7⟩ := F
  exact ⟨⟨dx, ls, D, s _ _ h1, s _ _ h2, s _ _ h3, n1, n2, n3, fun t ht => ⟨s _ _ (h4 t ht).1, (h4 t ht).2⟩⟩, fun t ht => ⟨(h5 t ht).1.keep (Tk.of s), (h5 t ht).2⟩, h6.trans s, h7⟩
theorem find_N {k : NestedKey} : ∀ (ts : List Th), valN (ts.map Th.e) k = (ts.find? fun t => decide (t.k = k)).map fun t => V.ref t.wl
  | [] => rfl
  | t :: ts => by
    have ih := find_N (k := k) ts
    unfold valN at ih ⊢
    by_cases h : t.k = k
    · simp [Th.e, h]
    · simpa [Th.e, h] using ih
theorem some_N {k : NestedKey} {ts : List Th} : (valN (ts.map Th.e) k).isSome = decide (k ∈ ts.map Th.k) := by
  rw [find_N, Option.isSome_map]
  cases e : ts.find? fun t => decide (t.k = k) with
  | some t =>
    have h1 := List.find?_some e
    have h2 := List.mem_of_find?_eq_some e
    exact (decide_eq_true (List.mem_map.mpr ⟨t, h2, of_decide_eq_true h1⟩)).symm
  | none =>
    refine (decide_eq_false fun h => ?_).symm
    obtain ⟨t, h2, h3⟩ := List.mem_map.mp h
    have := List.find?_eq_none.mp e t h2
    rw [decide_eq_true h3] at this
    exact this rfl
theorem at_nd : ∀ {ts : List Th} {i : Nat} {t : Th}, (ts.map Th.k).Nodup → ts[i]? = some t → valN (ts.map Th.e) t.k = some (.ref t.wl)
  | [], _, _, _, h => by simp at h
  | y :: ts, i, t, nd, h => by
    rw [find_N]
    cases i with
    | zero =>
      cases h
      simp
    | succ i =>
      rw [List.getElem?_cons_succ] at h
      rw [List.map_cons, List.nodup_cons] at nd
      have hm : t.k ∈ ts.map Th.k := List.mem_map.mpr ⟨t, List.mem_of_getElem? h, rfl⟩
      have hn : ¬ y.k = t.k := fun e => nd.1 (e ▸ hm)
      have ih := at_nd nd.2 h
      rw [find_N] at ih
      rw [List.find?_cons_of_neg (by simpa using hn)]
      exact ih
structure MthR (P : Program) (w : World) (K : PySem.W.Frag) (mg : Str → Option Value) (base : Heap) (C : Addr) (m : Str) (k : Nat) (ps : List Str) (sp : Sp) : Prop where
  ex : ∃ (f : Addr) (fd : FuncData), Meth K C m f ∧ Binds K fd ps [] ∧ FnOk P w K mg base (L2.CX P w) k f fd ps sp
theorem pe_mthR {X : Cx} {C : Addr} {k : Nat} {ps : List Str} {sp : Sp} {m : Str} {pos apos : Pos} {e o : Expr} {es : List Expr} {t : TA} {ta : TE} {E : XK} {pl : Sem Bool} (M : MthR X.prog X.w X.K X.mg X.base C m k ps sp) (c : Cls X.K C) (hr : Room k X.A) (tk : Takes X (fun cls d _ H => E cls d H)) (he : PE X o ta) (ha : PA X (e :: es) t)
    (hst : starEach (e :: es) X.env = (false, eval e X.env) :: starEach es X.env := by rfl) (hpl : (backTo pos (starEach es X.env)).any (·.1) = false := by rfl)
    (ht : eval (.Call (.Attribute o m apos) (e :: es) [] pos) X.env = (do
      let ov ← eval o X.env
      standAt apos.atName
      let (f, first) ← holding [ov] (getMethod ov m pl)
      callWith pos f first (backTo pos (starEach (e :: es) X.env)) (backToKw pos (keywordEach [] X.env))) := by rfl) :
    PE X (.Call (.Attribute o m apos) (e :: es) [] pos) (tMeth C m sp [] E ta t) := by
  obtain ⟨f, fd, hm, hb, F⟩ := M.ex
  exact pe_meth he c hm F hr hb .nil (passes_call tk fun _ _ _ _ h => h) ha hst hpl ht
def tCallNS (n m : Nat) (sp : Sp) (gV : List V → List V → List V) (E : L2.St → XK) (t tk : TA) : TE := fun σ H Q => t σ H fun vs H1 => tk σ H1 fun zs H2 => vs.length = n ∧ zs.length = m ∧ sp (gV vs zs) H2 Q (E σ)
theorem rd_callNS {n m : Nat} {sp : Sp} {gV : List V → List V → List V} {E : L2.St → XK} {t tk : TA} {σ : L2.St} {H : Hp} {Q : VK} (h : t σ H fun vs H1 => tk σ H1 fun zs H2 => vs.length = n ∧ zs.length = m ∧ sp (gV vs zs) H2 Q (E σ)) : tCallNS n m sp gV E t tk σ H Q := h
section
variable {X : Cx} {CX : CXT} {k n : Nat} {f : Addr} {fd : FuncData} {ps ks : List Str} {sp : Sp} {E : L2.St → XK} {x : Str} {p pos : Pos} {e : Expr} {es : List Expr} {kws : List Keyword} {t tk : TA} {g : List Value → List Value → List Value} {gV : List V → List V → List V}
theorem run_fnNS {pins : List (Addr × Obj)} {σ : L2.St} {H : Hp} {s : Shared} {Q : VK} {us ws : List Value} {vs zs : List V} (F : FnOk X.prog X.w X.K X.mg X.base CX k f fd ps sp) (hr : Room k X.A) (hb : KBn X.K fd ps n ks g gV) (hx : PassesAt CX X σ (E σ)) (I : L2.Inv X pins σ H s) (r : Vals vs us) (rz : Vals zs ws)
    (l1 : vs.length = n) (l2 : zs.length = ks.length) (h : sp (gV vs zs) H Q (E σ)) : wpAny (model X.prog X.w) X.A (call (.ref f) us (ks.zip ws)) (EP X pins σ Q) X.xe s := by
  have to_ := hb.to s us ws I.kIn (r.length.symm.trans l1) (rz.length.symm.trans l2)
  refine wpAny_call (codeAny_mono (F.run X.A X.stack s H ⟨us, ks.zip ws⟩ (g us ws) (gV vs zs) Q (E σ) hr I.env0 to_ (hb.rel r rz) h) fun r1 s' hq => ?_)
  match r1, hq with
  | .error e, hq => exact hx pins H s e s' I hq
  | .ok (.ret u), hq => exact I.after hq
  | .ok .next, hq => exact hq.elim
  | .ok .brk, hq => exact hq.elim
  | .ok .cont, hq => exact hq.elim
theorem pe_callNS (F : FnOk X.prog X.w X.K X.mg X.base CX k f fd ps sp) (hr : Room k X.A) (hg : Gl X x) (hm : X.mg x = some (.ref f)) (hk : PySem.W.keepIn X.K (.ref f) = true) (hb : KBn X.K fd ps n ks g gV) (hx : ∀ σ, PassesAt CX X σ (E σ)) (ha : PA X (e :: es) t) (hkw : PK X kws tk)
    (hall : (backToKw pos (keywordEach kws X.env)).all (·.1.isSome) = true := by rfl) (hks : (backToKw pos (keywordEach kws X.env)).filterMap (·.1) = ks := by rfl) (hdb : (x == ("__debug__" : Str)) = false := by decide) (he : starEach (e :: es) X.env = (false, eval e X.env) :: starEach es X.env := by rfl)
    (hpl : ((backTo pos (starEach (e :: es) X.env)).any (·.1) || (backToKw pos (keywordEach kws X.env)).any (·.1.isNone)) = false := by rfl) : PE X (.Call (.Name x p) (e :: es) kws pos) (tCallNS n ks.length sp gV E t tk) := by
  refine ⟨fun pins s σ H Q I h => wpAny_Call_Name_kw (ld_glob I hg hm ?_ hdb)⟩
  refine PySem.W.callWith_KW (h₀ := X.base) I.ok.mod.kin hk hall (thn (ha.run pos pins s σ H _ I h) fun us s1 ⟨vs, H1, I1, r, q⟩ => thn (hkw.run pos pins s1 σ H1 _ I1 q) fun ws s2 ⟨zs, H2, I2, rz, l1, l2, q2⟩ => ⟨I2.kIn, ?_⟩) hpl he
  rw [hks]
  exact run_fnNS F hr hb (hx σ) I2 r rz l1 l2 q2
end
end Rg
namespace Rg
open PySem PySem.Spec PyProof.Rows L2
/-- a key laid: a new one comes last; one that is there keeps its own tuple and takes the value -/
def putN (xs : List NE) (k : NestedKey) (q : Addr) (v : V) : List NE := if (valN xs k).isSome then xs.map fun x => if x.1 = k then (x.1, x.2.1, v) else x else xs ++ [(k, q, v)]
theorem putN_new {xs : List NE} {k : NestedKey} {q : Addr} {v : V} (h : valN xs k = none) : putN xs k q v = xs ++ [(k, q, v)] := by
  unfold putN
  rw [h]
  rfl
theorem putN_old {xs : List NE} {k : NestedKey} {q : Addr} {v y : V} (h : valN xs k = some y) : putN xs k q v = xs.map fun x => if x.1 = k then (x.1, x.2.1, v) else x := by
  unfold putN
  rw [h]
  rfl
theorem putN_length (xs : List NE) (k : NestedKey) (q : Addr) (v : V) : (putN xs k q v).length ≤ xs.length + 1 := by
  unfold putN
  split <;> simp
theorem putN_keys {H : Hp} {xs : List NE} {k : NestedKey} {q : Addr} {v : V} (h : KeysN H xs) (r : Rp H (.ref q) k.data) (hd : k.depth ≤ 8) : KeysN H (putN xs k q v) := by
  unfold putN
  split
  · intro x hx
    obtain ⟨y, hy, rfl⟩ := List.mem_map.mp hx
    split
    · exact h y hy
    · exact h y hy
  · exact h.snoc r hd
theorem map_REnt {k : NestedKey} {v : V} {r : Value} (rv : RelV v r) : ∀ {xs : List NE} {ys : List (NestedKey × Addr × Value)}, Paired REnt xs ys → Paired REnt (xs.map fun x => if x.1 = k then (x.1, x.2.1, v) else x) (ys.map (putAt k r))
  | _, _, .nil => .nil
  | _, _, @Paired.cons _ _ _ x y xs ys h t => by
    refine .cons ?_ (map_REnt rv t)
    show REnt (if x.1 = k then (x.1, x.2.1, v) else x) (if y.1 = k then (y.1, y.2.1, r) else y)
    by_cases e : x.1 = k
    · rw [if_pos e, if_pos (h.1 ▸ e)]
      exact ⟨h.1, h.2.1, rv⟩
    · rw [if_neg e, if_neg (fun z => e (h.1.trans z))]
      exact h
theorem putN_rel {xs : List NE} {ys : List (NestedKey × Addr × Value)} {k : NestedKey} {q : Addr} {v : V} {r : Value} (pr : Paired REnt xs ys) (rv : RelV v r) : Paired REnt (putN xs k q v) (storedH ys k q r) := by
  rcases at_N (k := k) pr with ⟨y, p, e1, e2, _⟩ | ⟨e1, e2⟩
  · rw [putN_old e1, storedH_old e2]
    exact map_REnt rv pr
  · rw [putN_new e1, storedH_new e2]
    exact Paired.snoc pr ⟨rfl, rfl, rv⟩
section
variable {X : Cx}
theorem put_dN {pins : List (Addr × Obj)} {σ : L2.St} {H : Hp} {s : Shared} {E : Value → Shared → Prop} {a q : Addr} {k : NestedKey} {xs : List NE} {v : V} {r : Value} {Q : Unit → Shared → Prop} (hu : X.A.units + 64 < cLine) (I : L2.Inv X pins σ H s)
    (e : H a = some (dN X.prog X.w a xs)) (ks : KeysN H xs) (rk : Rp H (.ref q) k.data) (dk : k.depth ≤ 8) (hl : xs.length ≤ 1000) (rv : RelV v r)
    (h : ∀ s', L2.Inv X pins σ (upd H a (dN X.prog X.w a (putN xs k q v))) s' → Q () s') : wpAny (model X.prog X.w) X.A (dictSet a (.ref q) r) Q E s := by
  obtain ⟨hd, hz, ys, pr, dd⟩ := dn_of I.hok e ks
  refine wpAny_dictSet_heap (hsz := by rw [← Paired.length pr]; exact hz) (show (nestedKind X.prog X.w).room X.A by show X.A.units + 8 < cLine; omega) (⟨nk_is I.hok k rk rfl, dk⟩ : (nestedKind X.prog X.w).is s.heap k q) dd fun h' dd' hs => h _ ?_
  have he : ∃ z, h'.get? a = some z := let ⟨z, _, _, hz, _⟩ := dd'; ⟨z, hz⟩
  refine d_write I (by rw [e]; exact True.intro) hs he (dn_ok hd ?_ (putN_rel pr rv) dd')
  have := putN_length xs k q v
  rw [sizeLine_eq]
  omega
end
section
variable {X : Cx}
theorem dnF_of {P : Program} {w : World} {H : Hp} {h : Heap} {a : Addr} {o : Obj} {xs : List NE} (ok : HOk P w H h) (e : H a = some (.frz o (dN P w a xs))) (ks : KeysN H xs) :
    (a == sysModules) = false ∧ h.get? a = some o ∧ o.ExactDict ∧ ∃ ys es ep, o.data = .dict es ep ∧ es.size = xs.length ∧ Paired REnt xs ys ∧ h.DictOfH (nestedKind P w) a ys ∧ ∀ i (hi : i < es.size), ∃ x, xs[i]? = some x ∧ es[i].key = .ref x.2.1 := by
  obtain ⟨e1, ⟨h1, h2, ys, h3, o', es, ep, g1, g2, g3, g4, g5⟩, _, _⟩ := (show ObjOk P w H h a (.frz o (dN P w a xs)) from ok a _ e)
  rw [e1] at g1
  cases g1
  have hl : es.size = ys.length := size_of_entries g4
  refine ⟨h1, e1, g2, ys, es, ep, g3, by rw [hl, ← Paired.length h3], h3, ⟨o, es, ep, e1, g2, g3, g4, keys_is ok h3 ks, g5⟩, fun i hi => ?_⟩
  have hx : i < xs.length := by rw [Paired.length h3, ← hl]; exact hi
  obtain ⟨b, hb, r⟩ := paired_get h3 (List.getElem?_eq_getElem hx)
  have q := entry_at g4 i
  rw [hb, Array.getElem?_eq_getElem hi, Option.map_some] at q
  refine ⟨xs[i], List.getElem?_eq_getElem hx, ?_⟩
  rw [Option.some.inj q]
  show Value.ref b.2.1 = _
  rw [r.2.1]
def rInNF (P : Program) (w : World) : R2 := fun x y H Q => ∃ (q a : Addr) (o : Obj) (k : NestedKey) (xs : List NE), x = .ref q ∧ y = .ref a ∧ H a = some (.frz o (dN P w a xs)) ∧ KeysN H xs ∧ Rp H (.ref q) k.data ∧ k.depth ≤ 8 ∧ Q (.bl (valN xs k).isSome) H
theorem op_inNF (hu : X.A.units + 64 < cLine) {P : Program} {w : World} (h1 : X.prog = P := by rfl) (h2 : X.w = w := by rfl) : OpR X (compareOp .In) (rInNF P w) := by
  subst h1 h2
  intro pins s σ H x y v u Q I rx ry h
  obtain ⟨q, a, o, k, xs, rfl, rfl, e, ks, rk, dk, hq⟩ := h
  obtain rfl : v = Value.ref q := rx
  obtain rfl : u = Value.ref a := ry
  obtain ⟨hd, _, _, ys, _, _, _, _, pr, dd, _⟩ := dnF_of I.hok e ks
  refine wpAny_in_heap (room8 hu) (⟨nk_is I.hok k rk rfl, dk⟩ : (nestedKind X.prog X.w).is s.heap k q) hd dd ?_
  rw [isSome_N pr]
  exact ⟨.bl _, H, I.tok _, rfl, hq⟩
end
/-- the keys, the dict as it stands under its lock -/
def Itn (P : Program) (w : World) (d : Addr) (o : Obj) (xs : List NE) : It :=
  ⟨fun i H => H d = some (.frz o (dN P w d xs)) ∧ KeysN H xs ∧ i < xs.length, fun i H x H' => H' = H ∧ ∃ e, xs[i]? = some e ∧ x = .ref e.2.1, fun i H => H d = some (.frz o (dN P w d xs)) ∧ KeysN H xs ∧ xs.length ≤ i⟩
theorem turn_keysN {P : Program} {w : World} {K : PySem.W.Frag} {tg : Expr} {d : Addr} {o : Obj} {es : Array DictEntry} {ep : Nat} {xs : List NE} (it : Addr) (hod : o.data = .dict es ep) : Turn P w K tg (Itn P w d o xs) [it] it (fun i h => h.IsKeyIter it d i xs.length ep) where
  mem := List.mem_singleton.mpr rfl
  obj := fun i h st b hb => by
    obtain rfl := List.mem_singleton.mp hb
    obtain ⟨oi, e, _, dd⟩ := st
    refine ⟨oi, e, fun v z => ?_⟩
    rw [dd] at z
    cases z
  keep := fun i h h' st k => st.at fun oi e => k it (List.mem_singleton.mpr rfl) oi e
  item := by
    intro X hP hw hK hc i pins s σ H E I hf st hg
    subst hP hw hK
    obtain ⟨hd, ks, hi⟩ := hg
    obtain ⟨f0, f1, f2, f3, f4, f5⟩ := hf it (List.mem_singleton.mpr rfl)
    obtain ⟨_, g1, g2, ys, es', ep', g3, hz, _, _, ent⟩ := dnF_of I.hok hd ks
    obtain ⟨rfl, rfl⟩ := dict_ep hod g3
    rw [← hz] at st hi
    obtain ⟨x, hx, hk⟩ := ent i hi
    refine wpAny_pyNext_keys_item_raw st ⟨o, g1, g2, g3⟩ hi fun h' st' sb => ?_
    obtain ⟨oi, e, c, dd⟩ := id st'
    rw [hz] at st'
    exact ⟨_, rfl, go_of (s := { s with heap := h' }) e c dd (by decide) ⟨.ref x.2.1, H, I.turned (t' := s.toks) (fun b ob hb e => (sb.2 b hb).trans e) f0 f1 f3 f4 f5, hk, ⟨rfl, x, hx, rfl⟩, st', fun b hb => (hf b hb).1⟩⟩
  done := by
    intro X hP hw hK hc i pins s σ H E I hf st hg
    subst hP hw hK
    obtain ⟨hd, ks, hi⟩ := hg
    obtain ⟨f0, f1, f2, f3, f4, f5⟩ := hf it (List.mem_singleton.mpr rfl)
    obtain ⟨_, g1, g2, ys, es', ep', g3, hz, _, _, _⟩ := dnF_of I.hok hd ks
    obtain ⟨rfl, rfl⟩ := dict_ep hod g3
    rw [← hz] at st hi
    exact wpAny_pyNext_keys_end_raw (I.ok.hd hc) st ⟨o, g1, g2, g3⟩ hi fun h' eb => ⟨rfl, I.turned (t' := s.toks) (fun b ob hb e => eb b ob hb e) f0 f1 f3 f4 f5⟩
  self := fun A i s Q E st h => wpAny_pyIter_keyiter st h
def iKeysN (P : Program) (w : World) (td : TE) : TI := fun σ H R => td σ H fun x H1 => ∃ d o xs, x = .ref d ∧ H1 d = some (.frz o (dN P w d xs)) ∧ KeysN H1 xs ∧ R (Itn P w d o xs) H1
theorem pi_keysN {X : Cx} {tg e : Expr} {td : TE} (he : PE X e td) {P : Program} {w : World} (h1 : X.prog = P := by rfl) (h2 : X.w = w := by rfl) : PI X tg e (iKeysN P w td) := by
  subst h1 h2
  refine ⟨fun pins s σ H R I h => thn (he.run pins s σ H _ I h) fun u s1 ⟨x, H1, I1, rx, d, o, xs, ex, hd, ks, q⟩ => ?_⟩
  subst ex
  obtain rfl : u = Value.ref d := rx
  obtain ⟨hs, g1, g2, ys, es, ep, g3, hz, _, _, _⟩ := dnF_of I1.hok hd ks
  refine wpAny_pyIter_dict_raw hs ⟨o, g1, g2, g3⟩ (pi_one (tk := s1.toks) I1 _ (turn_keysN _ g3) ⟨_, Heap.get?_push_size _ rfl, rfl, ?_⟩ q)
  rw [hz] <;> rfl
theorem walk_keysN {P : Program} {w : World} {d : Addr} {o : Obj} {xs : List NE} : Walk (Itn P w d o xs) xs.length (fun H => H d = some (.frz o (dN P w d xs)) ∧ KeysN H xs) (fun i H x H' => H' = H ∧ ∃ e, xs[i]? = some e ∧ x = .ref e.2.1) :=
  ⟨fun _ _ hi q => ⟨q.1, q.2, hi⟩, fun _ q => ⟨q.1, q.2, Nat.le_refl _⟩, fun _ _ _ _ _ _ y => y⟩
section
variable {X : Cx}
/-- one turn's end: the key and its value go into the new dict at D -/
def LaysN (P : Program) (w : World) (D : Addr) (Nx : Hp → Prop) (y z : V) (H : Hp) : Prop := ∃ (q : Addr) (k : NestedKey) (xs : List NE), y = .ref q ∧ H D = some (dN P w D xs) ∧ KeysN H xs ∧ Rp H (.ref q) k.data ∧ k.depth ≤ 8 ∧ xs.length ≤ 1000 ∧ Nx (upd H D (dN P w D (putN xs k q z)))
def tDcN (P : Program) (w : World) (wi : TI) (g : TG) (tk tv : TE) (vs : List Nat) : TE := fun σ H Q => wi σ H fun J H1 => ∀ D, H1 D = none → ∃ W : Nat → Nat → Hp → Prop, (∃ m, W 0 m (upd H1 D (dN P w D []))) ∧ ∀ i m H, W i m H →
  (J.stop i H ∧ Q (.ref D) H) ∨ (J.go i H ∧ ∃ Nx : Hp → Prop, (∀ H', Nx H' → ∃ m', m' < m ∧ W (i + 1) m' H') ∧ ∀ x H', J.yld i H x H' → g x (wipe σ vs) H' fun σ2 H2 => wipe σ2 vs = wipe σ vs ∧ tk σ2 H2 fun y H3 => tv σ2 H3 fun z H4 => LaysN P w D Nx y z H4)
theorem pe_dcN {kx vx tg iter : Expr} {scope : Scope} {own : List (Str × Nat)} {pos : Pos} {wi : TI} {g : TG} {tk tv : TE} (hu : X.A.units + 64 < cLine) (hc : X.calm = true) (hN : X.N.Nodup) (hi : PI X tg iter wi) (ok : BlkOk X.N X.env.scope scope own)
    (hg : ∀ (s : Shared) (H : Hp) (C : Addr) (cl : List (Str × Addr)) (fp : List Addr), PG (X.blk s H scope (compEnvC scope cl C X.env) fp) tg g)
    (hk : ∀ (s : Shared) (H : Hp) (C : Addr) (cl : List (Str × Addr)) (fp : List Addr), PE (X.blk s H scope (compEnvC scope cl C X.env) fp) kx tk)
    (he : ∀ (s : Shared) (H : Hp) (C : Addr) (cl : List (Str × Addr)) (fp : List Addr), PE (X.blk s H scope (compEnvC scope cl C X.env) fp) vx tv) (hs : ∀ x, foldedSetIterable iter X.env x = pure x := by intro _; rfl)
    {P : Program} {w : World} (h1 : X.prog = P := by rfl) (h2 : X.w = w := by rfl) : PE X (.DictComp kx vx [⟨tg, iter, [], 0⟩] scope pos) (tDcN P w wi g tk tv (own.map (·.2))) := by
  subst h1 h2
  refine ⟨fun pins s σ H Q I h => ?_⟩
  rw [arm_eval_DictComp]
  have hfree : ∀ y ∈ scope.names, y.2 = .free → ∃ c, X.env.cells.lookup y.1 = some c := fun y hy e => I.ok.has _ ((ok.free y hy e).elim .inl .inr)
  refine wpAny_comprehension_free (use := none) rfl hs (closure_ok hfree) ok.kind (fun y hy e => by rw [ok.uniq y hy, e]) (thn (hi.run pins s σ H _ I h) fun _ s1 hx => thn hx fun _ s2 h2 => ?_)
  obtain ⟨it, fp, tn, J, H2, rfl, I2, T, st2, f2, q⟩ := h2
  refine wpAny_newObj_type (newEnv_comp ?_)
  generalize hD : s2.heap.objs.size = D
  have hDn : H2 D = none := I2.hok.fresh (Nat.le_of_eq hD)
  obtain ⟨W, ⟨m0, w0⟩, turn⟩ := q D hDn
  -- the new dict
  have lt2 : ∀ b ∈ fp, b < s2.heap.objs.size := fun b hb => let ⟨_, e, _⟩ := T.obj _ _ st2 b hb; Heap.lt_size e
  have I3 : L2.Inv X pins σ (upd H2 D (dN X.prog X.w D [])) ({ s2 with heap := s2.heap.push { cls := .type "dict", data := .dict #[] } } : Shared) := by
    subst hD
    exact I2.laid (t' := s2.toks) (fun _ _ e => Heap.get?_push_of_some _ e) (Nat.le_refl _) (dn_ok (beq_eq_false_iff_ne.mpr (Ne.symm (Nat.ne_of_lt I2.big))) (Nat.zero_le _) .nil (Heap.DictOfH.new s2.heap))
  have st3 : tn 0 (s2.heap.push { cls := .type "dict", data := .dict #[] }) := T.keep _ _ _ st2 fun _ _ _ e => Heap.get?_push_of_some _ e
  have f3 : ∀ b ∈ fp, FpOk X pins (upd H2 D (dN X.prog X.w D [])) b ∧ b < (s2.heap.push { cls := .type "dict", data := .dict #[] }).objs.size := fun b hb =>
    ⟨⟨by rw [upd_ne (hD ▸ Nat.ne_of_lt (lt2 b hb))]; exact (f2 b hb).1, (f2 b hb).2⟩, by rw [Heap.size_push]; exact Nat.lt_succ_of_lt (lt2 b hb)⟩
  clear hDn h
  generalize hs3 : ({ s2 with heap := s2.heap.push { cls := .type "dict", data := .dict #[] } } : Shared) = s3 at I3
  have e3 : s2.heap.push { cls := .type "dict", data := .dict #[] } = s3.heap := by rw [← hs3]
  rw [e3] at st3 f3
  generalize hH3 : upd H2 D (dN X.prog X.w D []) = H3 at I3 w0 f3
  have I4 := block_start I3 ok hN f3
  show codeAny _ _ (.compStart (.DictComp kx vx [⟨tg, iter, [], 0⟩] scope pos) 0 (.ref it) (.ref D) (compEnvC scope (cellsFrom (s3.heap.objs.size + 1) scope.names (cloFrom X.env.cells scope.names [])) s3.heap.objs.size X.env)) (compPost (model X.prog X.w) X.A X.xe none (EP X pins σ Q) (.ref D) s3.heap.objs.size) { s3 with heap := pushCells (s3.heap.push { cls := .type "dict", data := .dict #[] }) scope.names }
  have pg := hg s3 H3 s3.heap.objs.size (cellsFrom (s3.heap.objs.size + 1) scope.names (cloFrom X.env.cells scope.names [])) fp
  have pk := hk s3 H3 s3.heap.objs.size (cellsFrom (s3.heap.objs.size + 1) scope.names (cloFrom X.env.cells scope.names [])) fp
  have pv := he s3 H3 s3.heap.objs.size (cellsFrom (s3.heap.objs.size + 1) scope.names (cloFrom X.env.cells scope.names [])) fp
  generalize hce : compEnvC scope (cellsFrom (s3.heap.objs.size + 1) scope.names (cloFrom X.env.cells scope.names [])) s3.heap.objs.size X.env = ce at I4 pg pk pv ⊢
  have cL : ce.locals = s3.heap.objs.size := by rw [← hce]; rfl
  generalize hs4 : ({ s3 with heap := pushCells (s3.heap.push { cls := .type "dict", data := .dict #[] }) scope.names } : Shared) = s4 at I4 ⊢
  have st4 : tn 0 s4.heap := T.keep _ _ _ st3 fun _ _ _ e => by rw [← hs4]; exact pushCells_keeps _ _ _ _ (Heap.get?_push_of_some _ e)
  -- what the iterator's things keep in the block
  have own_ : ∀ {σ' : L2.St} {H' : Hp} {s' : Shared}, L2.Inv (X.blk s3 H3 scope ce fp) [] σ' H' s' → (∀ b ∈ fp, H' b = none) → ∀ b ∈ fp, FpOk (X.blk s3 H3 scope ce fp) [] H' b := fun {σ' H' s'} J' n b hb =>
    ⟨n b hb, (J'.ok.exf b hb).1, J'.ok.exfs b hb, .inl hb, (J'.ok.exf b hb).2, fun p hp => nomatch hp⟩
  refine (fun lp => codeAny_compStart_dict lp (T.self X.A 0 _ _ _ st4 lp)) (compLoop_anyD (fun n s' => ∃ i H', L2.Inv (X.blk s3 H3 scope ce fp) [] (wipe σ (own.map (·.2))) H' s' ∧ tn i s'.heap ∧ (∀ b ∈ fp, H' b = none) ∧ W i n H') ?_ m0 ⟨0, H3, I4, st4, fun b hb => (f3 b hb).1.1, w0⟩)
  rintro n s5 ⟨i, H5, I5, st5, n5, w5⟩
  rcases turn i n H5 w5 with ⟨stop, qq⟩ | ⟨go, Nx, hNx, step⟩
  · refine thnF (T.done (X.blk s3 H3 scope ce fp) rfl rfl rfl hc i [] s5 _ H5 (fun _ _ => False) I5 (own_ I5 n5) st5 stop) fun r s6 ⟨hr, I6⟩ => ?_
    subst hr
    have nC : H5 s3.heap.objs.size = none := cL ▸ (I6.free : H5 ce.locals = none)
    obtain ⟨m, hn, _⟩ := I6.loc
    refine ⟨m, (cL ▸ (hn : s6.heap.Ns ce.locals m) : s6.heap.Ns s3.heap.objs.size m), fun h'' sb => ?_⟩
    have I7 : L2.Inv X pins σ H5 s6 := I3.call' (ch := fp) I6.os I6.base I6.hok I6.bare fun b hb => ⟨(f3 b hb).1.2.2.2.1, (f3 b hb).1.2.1, (f3 b hb).1.2.2.2.2.1, (f3 b hb).1.2.2.2.2.2⟩
    obtain ⟨f0, f1, _, f3, f4, f5⟩ := I3.fpOk (Nat.le_refl _) nC
    exact ⟨.ref D, H5, I7.turned (t' := s6.toks) (fun b o hb e => (sb.2 b hb).trans e) f0 f1 f3 f4 f5, rfl, qq⟩
  · refine thnF (T.item (X.blk s3 H3 scope ce fp) rfl rfl rfl hc i [] s5 _ H5 (fun _ _ => False) I5 (own_ I5 n5) st5 go) fun r s6 ⟨u, hr, h6⟩ => ?_
    subst hr
    refine thnF h6 fun _ s7 ⟨x, H7, I7, r7, y7, st7, n7⟩ => ?_
    refine thnF (pg.run _ s7 _ H7 x u _ (I7.pinned (own_ I7 n7) (T.obj _ _ st7)) r7 (step x H7 y7)) fun _ s8 ⟨σ8, H8, I8, hw8, q8⟩ => ?_
    refine wpAny_pure ?_
    show wpAny _ _ (eval kx ce) _ _ s8
    refine thnF (pk.run _ s8 σ8 H8 _ I8 q8) fun z s9 ⟨y, H9, I9, r9, q9⟩ => ?_
    refine thnF (pv.run _ s9 σ8 H9 _ I9 q9) fun z2 s10 ⟨y2, H10, I10, r10, b, k, xs, ek, hD10, ks, rk, dk, hl, nx⟩ => ?_
    subst ek
    obtain rfl : z = Value.ref b := r9
    refine put_dN (X := X.blk s3 H3 scope ce fp) hu I10 hD10 ks rk dk hl r10 fun s11 I11 => ?_
    obtain ⟨m', hm, w'⟩ := hNx _ nx
    have pin' : ∀ b ∈ fp, ∀ o, s7.heap.get? b = some o → s11.heap.get? b = some o ∧ _ = none := fun b hb o e => let z := I11.pin (b, o) (List.mem_append_right _ (List.mem_append_right _ (mem_pinsAt hb e))); ⟨z.1, z.2.1⟩
    refine ⟨m', hm, i + 1, _, (I11.unpinned (pins := [])).weak (by rw [← hw8, wipe_length]) (fun j v e => ?_), T.keep _ _ _ st7 fun b hb o e => (pin' b hb o e).1, fun b hb => ?_, w'⟩
    · rw [← hw8] at e
      exact (wipe_some e).1
    · obtain ⟨o, e, _⟩ := T.obj _ _ st7 b hb
      exact (pin' b hb o e).2
end
theorem rd_dcN {P : Program} {w : World} {wi : TI} {g : TG} {tk tv : TE} {vs : List Nat} {σ : L2.St} {H : Hp} {Q : VK} (h : wi σ H fun J H1 => ∀ D, H1 D = none → ∃ W : Nat → Nat → Hp → Prop, (∃ m, W 0 m (upd H1 D (dN P w D []))) ∧ ∀ i m H, W i m H →
  (J.stop i H ∧ Q (.ref D) H) ∨ (J.go i H ∧ ∃ Nx : Hp → Prop, (∀ H', Nx H' → ∃ m', m' < m ∧ W (i + 1) m' H') ∧ ∀ x H', J.yld i H x H' → g x (wipe σ vs) H' fun σ2 H2 => wipe σ2 vs = wipe σ vs ∧ tk σ2 H2 fun y H3 => tv σ2 H3 fun z H4 => LaysN P w D Nx y z H4)) : tDcN P w wi g tk tv vs σ H Q := h
theorem dcN_it {P : Program} {w : World} {J : It} {n : Nat} {G : Hp → Prop} {Y : Nat → Hp → V → Hp → Prop} (wk : Walk J n G Y) {g : TG} {tk tv : TE} {vs : List Nat} {σ : L2.St} {H1 : Hp} {D : Addr} {Qd : Hp → Prop} (Pv : Nat → Hp → Prop) (h0 : Pv 0 (upd H1 D (dN P w D []))) (hG : ∀ i H, i ≤ n → Pv i H → G H)
    (hs : ∀ i x H H', i < n → Pv i H → Y i H x H' → g x (wipe σ vs) H' fun σ2 H2 => wipe σ2 vs = wipe σ vs ∧ tk σ2 H2 fun y H3 => tv σ2 H3 fun z H4 => LaysN P w D (Pv (i + 1)) y z H4) (hd : ∀ H, Pv n H → Qd H) :
    ∃ W : Nat → Nat → Hp → Prop, (∃ m, W 0 m (upd H1 D (dN P w D []))) ∧ ∀ i m H, W i m H →
      (J.stop i H ∧ Qd H) ∨ (J.go i H ∧ ∃ Nx : Hp → Prop, (∀ H', Nx H' → ∃ m', m' < m ∧ W (i + 1) m' H') ∧ ∀ x H', J.yld i H x H' → g x (wipe σ vs) H' fun σ2 H2 => wipe σ2 vs = wipe σ vs ∧ tk σ2 H2 fun y H3 => tv σ2 H3 fun z H4 => LaysN P w D Nx y z H4) := by
  refine ⟨fun i m H => m + i = n ∧ Pv i H, ⟨n, rfl, h0⟩, fun i m H h => ?_⟩
  obtain ⟨e, p⟩ := h
  have q := hG i H (by omega) p
  cases m with
  | zero =>
    obtain rfl : i = n := by omega
    exact .inl ⟨wk.stops H q, hd H p⟩
  | succ m => exact .inr ⟨wk.goes i H (by omega) q, Pv (i + 1), fun H' p' => ⟨m, Nat.lt_succ_self m, by omega, p'⟩, fun x H' y => hs i x H H' (by omega) p (wk.yields i H x H' (by omega) q y)⟩
theorem mem_putN {xs : List NE} {k k' : NestedKey} {q : Addr} {v : V} (hk : (valN xs k).isSome = decide (k ∈ xs.map (·.1))) : k' ∈ (putN xs k q v).map (·.1) ↔ k' ∈ xs.map (·.1) ∨ k' = k := by
  unfold putN
  split
  · rename_i h
    have e : (xs.map fun x => if x.1 = k then (x.1, x.2.1, v) else x).map (·.1) = xs.map (·.1) := by
      rw [List.map_map]
      refine List.map_congr_left fun x _ => ?_
      show (if x.1 = k then (x.1, x.2.1, v) else x).1 = x.1
      split <;> rfl
    rw [e]
    refine ⟨.inl, fun z => z.elim id fun z => ?_⟩
    rw [z]
    exact of_decide_eq_true (hk ▸ h)
  · rw [List.map_append, List.mem_append]
    exact or_congr Iff.rfl List.mem_singleton
theorem isSome_mem {k : NestedKey} : ∀ {xs : List NE}, (valN xs k).isSome = decide (k ∈ xs.map (·.1))
  | [] => rfl
  | x :: xs => by
    have ih := isSome_mem (k := k) (xs := xs)
    unfold valN at ih ⊢
    rw [List.map_cons]
    by_cases h : x.1 = k
    · rw [List.find?_cons_of_pos (by simpa using h)]
      exact (decide_eq_true (h ▸ List.mem_cons_self)).symm
    · rw [List.find?_cons_of_neg (by simpa using h), ih]
      refine decide_eq_decide.mpr ⟨List.mem_cons_of_mem _, fun z => ?_⟩
      rcases List.mem_cons.mp z with z | z
      · exact absurd z.symm h
      · exact z
/-- the dict has just these keys -/
structure HasN (H : Hp) (xs : List NE) (ks : List NestedKey) : Prop where
  keys : KeysN H xs
  mem : ∀ k, k ∈ xs.map (·.1) ↔ k ∈ ks
  len : xs.length ≤ ks.length
theorem HasN.keep {H H' : Hp} {xs : List NE} {ks : List NestedKey} (h : HasN H xs ks) (k : Tk H H') : HasN H' xs ks := ⟨h.keys.keep k, h.mem, h.len⟩
theorem HasN.nil {H : Hp} : HasN H [] [] := ⟨fun _ h => (nomatch h), fun _ => Iff.rfl, Nat.le_refl _⟩
theorem HasN.put {H : Hp} {xs : List NE} {ks : List NestedKey} {k : NestedKey} {q : Addr} {v : V} (h : HasN H xs ks) (r : Rp H (.ref q) k.data) (hd : k.depth ≤ 8) : HasN H (putN xs k q v) (ks ++ [k]) := by
  refine ⟨putN_keys h.keys r hd, fun k' => ?_, ?_⟩
  · rw [mem_putN isSome_mem, h.mem k', List.mem_append, List.mem_singleton]
  · have := putN_length xs k q v
    have := h.len
    rw [List.length_append]
    show _ ≤ ks.length + 1
    omega
theorem HasN.at {H : Hp} {xs : List NE} {ks : List NestedKey} (h : HasN H xs ks) (k : NestedKey) : (valN xs k).isSome = decide (k ∈ ks) := isSome_mem.trans (decide_eq_decide.mpr (h.mem k))
theorem rd_lock {t : TS} {D : Ends} {σ : L2.St} {H : Hp} {d : Addr} {u : HO} (h1 : H d = some u) (h2 : Mut (some u)) (h : ∀ od, t ⟨fun σ' H' => H' d = some (.frz od u) ∧ D.nx σ' (upd H' d u), fun v H' => H' d = some (.frz od u) ∧ D.rt v (upd H' d u), fun σ' H' => H' d = some (.frz od u) ∧ D.bk σ' (upd H' d u), fun σ' H' => H' d = some (.frz od u) ∧ D.ct σ' (upd H' d u)⟩ σ (upd H d (.frz od u))) : tLock t D σ H := ⟨d, u, h1, h2, h⟩
theorem rd_ikN {P : Program} {w : World} {td : TE} {σ : L2.St} {H : Hp} {R : It → Hp → Prop} (h : td σ H fun x H1 => ∃ d o xs, x = .ref d ∧ H1 d = some (.frz o (dN P w d xs)) ∧ KeysN H1 xs ∧ R (Itn P w d o xs) H1) : iKeysN P w td σ H R := h
theorem Tk.dn {P : Program} {w : World} {H : Hp} {q a : Addr} {xs : List NE} {o : HO} (h : H q = some (dN P w a xs)) : Tk H (upd H q o) := fun c ys e => by rw [upd_ne (ne_of e h (fun z => nomatch z))]; exact e
end Rg
namespace Rg
open PySem PySem.Spec L2
local macro_rules | `(tactic| walk_at "rd1") => `(tactic| first
  | with_reducible refine rd_seq ?_
  | with_reducible refine rd_asg ?_
  | ((with_reducible show tVar _ _ _ _); refine rd_var rfl ?_)
  | with_reducible refine rd_c ?_
  | with_reducible refine rd_op ?_
  | with_reducible refine rd_I0 ?_
  | with_reducible refine rd_name ?_
  | with_reducible refine rd_ret ?_
  | with_reducible refine rd_ifs ?_
  | with_reducible refine rd_test ?_
  | with_reducible refine rd_tB ?_
  | with_reducible refine rd_bl ?_
  | with_reducible refine rd_drop ?_
  | with_reducible refine rd_nil ?_
  | with_reducible refine rd_cons ?_
  | with_reducible refine rd_call ?_
  | with_reducible refine rd_cb ?_
  | with_reducible refine rd_tup ?_
  | with_reducible refine rd_lst ?_
  | with_reducible refine rd_and ?_
  | with_reducible refine rd_or ?_
  | with_reducible refine rd_not ?_
  | with_reducible refine rd_andV ?_
  | with_reducible refine rd_orV ?_
  | with_reducible refine rd_notV ?_
  | with_reducible refine rd_chain ?_
  | with_reducible refine rd_un ?_
  | with_reducible refine rd_isN ?_
  | with_reducible refine rd_bm ?_
  | with_reducible refine rd_bm0 ?_
  | with_reducible refine rd_gsub ?_
  | with_reducible refine rd_sl ?_
  | with_reducible refine rd_gt ?_
  | with_reducible refine rd_yes ?_
  | with_reducible refine rd_gcons ?_
  | with_reducible refine rd_gnil ?_
  | with_reducible refine rd_part ?_
  | with_reducible refine rd_nopart ?_
  | ((with_reducible show gTup _ _ _ _ _ _ _); refine rd_gtup (by first | assumption | exact upd_same) rfl ?_)
  | ((with_reducible show gLst _ _ _ _ _ _ _); refine rd_glst (by first | assumption | exact upd_same) rfl ?_)
  | ((with_reducible show rIsi _ _ _ _); first | refine rd_isi (b := true) (.ty _) (.base (by first | exact .int _ | exact .str _ | exact .bl _ | exact .non | exact .tup (by assumption) | exact .lst (by assumption))) (kit_ty (by decide +kernel)) ?_ | refine rd_isi (b := false) (.ty _) (.base (by first | exact .int _ | exact .str _ | exact .bl _ | exact .non | exact .tup (by assumption) | exact .lst (by assumption))) (kit_ty (by decide +kernel)) ?_)
  | with_reducible refine rd_fld ?_
  | with_reducible refine rd_sfld ?_
  | with_reducible refine rd_meth ?_
  | with_reducible refine rd_make ?_
  | with_reducible refine rd_makeK ?_
  | with_reducible refine rd_U ?_
  | with_reducible refine rd_makeKS ?_
  | with_reducible refine rd_callN ?_
  | with_reducible refine rd_rs ?_
  | with_reducible refine rd_rf ?_
  | with_reducible refine rd_star ?_
  | with_reducible refine rd_callS ?_
  | with_reducible refine rd_for ?_
  | with_reducible refine rd_lc ?_
  | with_reducible refine rd_ilist ?_
  | with_reducible refine rd_itup ?_
  | with_reducible refine rd_irng ?_
  | with_reducible refine rd_izipS ?_
  | with_reducible refine rd_ienum ?_
  | with_reducible refine rd_ienT ?_
  | with_reducible refine rd_next ?_
  | with_reducible refine rd_eq rfl ?_
  | with_reducible refine rd_ne rfl ?_
  | with_reducible refine iteT ?_
  | with_reducible refine iteF ?_
  | with_reducible refine rd_ifnT ?_
  | with_reducible refine rd_ifnF ?_
  | ((with_reducible show rI (fun _ j => (0 : Int) < j) _ _ _ _ _); refine rd_mod (by omega) ?_)
  | with_reducible refine rd_new rfl ?_
  | ((with_reducible show rIxL _ _ (V.int 0) _ _); refine rd_ixL0 (by first | assumption | exact upd_same) ?_)
  | ((with_reducible show rIxL _ _ _ _ _); refine rd_ixL (by first | assumption | exact upd_same) rfl ?_)
  | ((with_reducible show rSetL _ _ _ _ _); refine rd_setL (by first | assumption | exact upd_same) rfl ?_)
  | ((with_reducible show rI CMul _ _ _ _ _); refine rd_mul (by first | exact Or.inl ⟨by omega, by omega⟩ | exact Or.inr ⟨by omega, by omega⟩) ?_)
  | ((with_reducible show tyV _ "list" _ _ ∧ _); refine rd_tyL (by first | assumption | exact upd_same) ?_)
  | ((with_reducible show rIxT _ _ (V.int 0) _ _); refine rd_ixT0 (by first | assumption | exact upd_same) ?_)
  | ((with_reducible show rIxT _ _ _ _ _); refine rd_ixT (by first | assumption | exact upd_same) rfl ?_))
local macro_rules | `(tactic| walk_at "rdn1") => `(tactic| first
  | with_reducible refine rd_seq ?_
  | with_reducible refine rd_asg ?_
  | ((with_reducible show tVar _ _ _ _); refine rd_var rfl ?_)
  | with_reducible refine rd_c ?_
  | with_reducible refine rd_op ?_
  | with_reducible refine rd_I0 ?_
  | with_reducible refine rd_name ?_
  | with_reducible refine rd_ret ?_
  | with_reducible refine rd_ifs ?_
  | with_reducible refine rd_test ?_
  | with_reducible refine rd_tB ?_
  | with_reducible refine rd_bl ?_
  | with_reducible refine rd_drop ?_
  | with_reducible refine rd_nil ?_
  | with_reducible refine rd_cons ?_
  | with_reducible refine rd_call ?_
  | with_reducible refine rd_cb ?_
  | with_reducible refine rd_tup ?_
  | with_reducible refine rd_lst ?_
  | with_reducible refine rd_and ?_
  | with_reducible refine rd_or ?_
  | with_reducible refine rd_not ?_
  | with_reducible refine rd_notV ?_
  | with_reducible refine rd_chain ?_
  | with_reducible refine rd_un ?_
  | with_reducible refine rd_isN ?_
  | with_reducible refine rd_bm ?_
  | with_reducible refine rd_bm0 ?_
  | with_reducible refine rd_gsub ?_
  | with_reducible refine rd_sl ?_
  | with_reducible refine rd_gt ?_
  | with_reducible refine rd_yes ?_
  | with_reducible refine rd_gcons ?_
  | with_reducible refine rd_gnil ?_
  | with_reducible refine rd_part ?_
  | with_reducible refine rd_nopart ?_
  | ((with_reducible show gTup _ _ _ _ _ _ _); refine rd_gtup (by first | assumption | exact upd_same) rfl ?_)
  | ((with_reducible show gLst _ _ _ _ _ _ _); refine rd_glst (by first | assumption | exact upd_same) rfl ?_)
  | ((with_reducible show rIsi _ _ _ _); first | refine rd_isi (b := true) (.ty _) (.base (by first | exact .int _ | exact .str _ | exact .bl _ | exact .non | exact .tup (by assumption) | exact .lst (by assumption))) (kit_ty (by decide +kernel)) ?_ | refine rd_isi (b := false) (.ty _) (.base (by first | exact .int _ | exact .str _ | exact .bl _ | exact .non | exact .tup (by assumption) | exact .lst (by assumption))) (kit_ty (by decide +kernel)) ?_)
  | with_reducible refine rd_fld ?_
  | with_reducible refine rd_sfld ?_
  | with_reducible refine rd_meth ?_
  | with_reducible refine rd_make ?_
  | with_reducible refine rd_makeK ?_
  | with_reducible refine rd_U ?_
  | with_reducible refine rd_makeKS ?_
  | with_reducible refine rd_callN ?_
  | with_reducible refine rd_rs ?_
  | with_reducible refine rd_rf ?_
  | with_reducible refine rd_star ?_
  | with_reducible refine rd_callS ?_
  | with_reducible refine rd_for ?_
  | with_reducible refine rd_lc ?_
  | with_reducible refine rd_ilist ?_
  | with_reducible refine rd_itup ?_
  | with_reducible refine rd_irng ?_
  | with_reducible refine rd_izipS ?_
  | with_reducible refine rd_ienum ?_
  | with_reducible refine rd_ienT ?_
  | with_reducible refine rd_next ?_
  | with_reducible refine rd_eq rfl ?_
  | with_reducible refine rd_ne rfl ?_
  | with_reducible refine iteT ?_
  | with_reducible refine iteF ?_
  | with_reducible refine rd_ifnT ?_
  | with_reducible refine rd_ifnF ?_
  | ((with_reducible show rI (fun _ j => (0 : Int) < j) _ _ _ _ _); refine rd_mod (by omega) ?_)
  | with_reducible refine rd_new rfl ?_
  | ((with_reducible show rIxL _ _ (V.int 0) _ _); refine rd_ixL0 (by first | assumption | exact upd_same) ?_)
  | ((with_reducible show rIxL _ _ _ _ _); refine rd_ixL (by first | assumption | exact upd_same) rfl ?_)
  | ((with_reducible show rSetL _ _ _ _ _); refine rd_setL (by first | assumption | exact upd_same) rfl ?_)
  | ((with_reducible show rI CMul _ _ _ _ _); refine rd_mul (by first | exact Or.inl ⟨by omega, by omega⟩ | exact Or.inr ⟨by omega, by omega⟩) ?_)
  | ((with_reducible show tyV _ "list" _ _ ∧ _); refine rd_tyL (by first | assumption | exact upd_same) ?_)
  | ((with_reducible show rIxT _ _ (V.int 0) _ _); refine rd_ixT0 (by first | assumption | exact upd_same) ?_)
  | ((with_reducible show rIxT _ _ _ _ _); refine rd_ixT (by first | assumption | exact upd_same) rfl ?_))
local macro_rules | `(tactic| walk_at "rd") => `(tactic| (repeat (first | walk_at "rd1" | dsimp only)))
local macro_rules | `(tactic| walk_at "rds") => `(tactic| (dsimp only [cxOf, Cx.nox, Cx.wish, Cx.blk, L2.start]; walk_at "rd"))
local macro_rules | `(tactic| walk_at "rdn") => `(tactic| (repeat (first | walk_at "rdn1" | dsimp only)))
section
variable {P : Program} {w : World} {K : PySem.W.Frag} {mg : Str → Option Value} {base : Heap}
def spWhole : Sp := fun vs H Q _ => ∃ i : Int, vs = [.int i] ∧ Q (.bl true) H
theorem ok_whole {f : Addr} {fd : FuncData} (B : BT mg) (F : Fun K "is_whole" "is_whole" s_is_whole f fd) (hm : mg "is_whole" = some (.ref f)) : Cal P w K mg base "is_whole" 1 ["number"] spWhole := by
  refine ⟨f, fd, hm, F.kp, F.binds (ps := ["number"]) fun _ _ _ _ _ _ us hl => match us, hl with | [_], _ => rfl, ?_⟩
  refine F.ok sc_is_whole (fun vs H Q E h => ?_) (fun cdv A outer s H vs Q E hr h => ?_)
  · obtain ⟨i, rfl, _⟩ := h
    rfl
  · obtain ⟨i, rfl, k⟩ := h
    refine ⟨_, (pss_one (ps_ret (pe_and (pe_callB (r := rIsi K) call_isi rfl B.g_isinstance (by decide +kernel) (pa_cons (pv 0) (pa_cons (pe_bltn (v := .ty "int") rfl B.g_int (by decide +kernel) rfl) pa_nil))) (pe_one (pe_not (pe_callB (r := rIsi K) call_isi rfl B.g_isinstance (by decide +kernel) (pa_cons (pv 0) (pa_cons (pe_bltn (v := .ty "bool") rfl B.g_bool (by decide +kernel) rfl) pa_nil)))))))), ?_⟩
    walk_at "rds"
    exact k
def spBelow : Sp := fun vs H Q _ => ∃ i b : Int, vs = [.int i, .int b] ∧ Q (.bl (below i b)) H
theorem ok_below {f : Addr} {fd : FuncData} (B : BT mg) (F : Fun K "is_below" "is_below" s_is_below f fd) (hm : mg "is_below" = some (.ref f)) (C_is_whole : Cal P w K mg base "is_whole" 1 ["number"] spWhole) : Cal P w K mg base "is_below" 2 ["number", "bound"] spBelow := by
  refine ⟨f, fd, hm, F.kp, F.binds (ps := ["number", "bound"]) fun _ _ _ _ _ _ us hl => match us, hl with | [_, _], _ => rfl, ?_⟩
  refine F.ok sc_is_below (fun vs H Q E h => ?_) (fun cdv A outer s H vs Q E hr h => ?_)
  · obtain ⟨i, b, rfl, _⟩ := h
    rfl
  · obtain ⟨i, b, rfl, k⟩ := h
    refine ⟨_, (pss_one (ps_ret (pe_and (pe_cal C_is_whole (hr.mono (by omega)) rfl (pa_cons (pv 0) pa_nil)) (pe_one (pe_chain op_le op_lt pe_int (pv 0) (pv 1)))))), ?_⟩
    walk_at "rds"
    refine ⟨i, rfl, ?_⟩
    walk_at "rd"
    refine rd_ifd (fun h0 => ?_) (fun h0 => ?_)
    · walk_at "rd"
      unfold below at k
      rw [decide_eq_true h0] at k
      exact k
    · unfold below at k
      rw [decide_eq_false h0] at k
      exact k
def spRing : Sp := fun vs H Q _ => ∃ i : Int, vs = [.int i] ∧ Q (.bl (below i 8)) H
theorem ok_ring {f : Addr} {fd : FuncData} (B : BT mg) (F : Fun K "is_ring" "is_ring" s_is_ring f fd) (hm : mg "is_ring" = some (.ref f)) (G_RINGS : GI mg "RINGS" 8) (C_is_below : Cal P w K mg base "is_below" 2 ["number", "bound"] spBelow) : Cal P w K mg base "is_ring" 3 ["number"] spRing := by
  refine ⟨f, fd, hm, F.kp, F.binds (ps := ["number"]) fun _ _ _ _ _ _ us hl => match us, hl with | [_], _ => rfl, ?_⟩
  refine F.ok sc_is_ring (fun vs H Q E h => ?_) (fun cdv A outer s H vs Q E hr h => ?_)
  · obtain ⟨i, rfl, _⟩ := h
    rfl
  · obtain ⟨i, rfl, k⟩ := h
    refine ⟨_, (pss_one (ps_ret (pe_cal C_is_below (hr.mono (by omega)) rfl (pa_cons (pv 0) (pa_cons (pe_gi G_RINGS rfl) pa_nil))))), ?_⟩
    walk_at "rds"
    exact ⟨i, 8, rfl, k⟩
def spNFits : Sp := fun vs H Q _ => ∃ (c : Nat) (i m : Int), vs = [.str ⟨#[c]⟩, .int i, .int m] ∧ Q (.bl (numFits c i m)) H
theorem sign_eq {c d : Nat} : ((⟨#[c]⟩ : Str) = ⟨#[d]⟩) ↔ c = d := ⟨fun h => by injection h with h; simpa using h, fun h => by rw [h]⟩
theorem ok_nfits {f : Addr} {fd : FuncData} (B : BT mg) (F : Fun K "number_fits" "number_fits" s_number_fits f fd) (hm : mg "number_fits" = some (.ref f)) (G_POINTERS : GI mg "POINTERS" 4) (C_is_whole : Cal P w K mg base "is_whole" 1 ["number"] spWhole) (C_is_below : Cal P w K mg base "is_below" 2 ["number", "bound"] spBelow) :
    Cal P w K mg base "number_fits" 3 ["letter", "number", "many"] spNFits := by
  refine ⟨f, fd, hm, F.kp, F.binds (ps := ["letter", "number", "many"]) fun _ _ _ _ _ _ us hl => match us, hl with | [_, _, _], _ => rfl, ?_⟩
  refine F.ok sc_number_fits (fun vs H Q E h => ?_) (fun cdv A outer s H vs Q E hr h => ?_)
  · obtain ⟨c, i, m, rfl, _⟩ := h
    rfl
  · obtain ⟨c, i, m, rfl, k⟩ := h
    refine ⟨_, (pss_cons (ps_if (pt_cmpR op_eq (pv 0) pe_str (nomark _)) (pss_one (ps_ret (pe_cal C_is_below (hr.mono (by omega)) rfl (pa_cons (pv 1) (pa_cons (pe_gi G_POINTERS rfl) pa_nil))))) pss_nil)
 (pss_cons (ps_if (pt_cmpR op_eq (pv 0) pe_str (nomark _)) (pss_one (ps_ret (pe_cal C_is_below (hr.mono (by omega)) rfl (pa_cons (pv 1) (pa_cons (pv 2) pa_nil))))) pss_nil)
 (pss_one (ps_ret (pe_cal C_is_whole (hr.mono (by omega)) rfl (pa_cons (pv 1) pa_nil)))))), ?_⟩
    walk_at "rds"
    unfold numFits at k
    refine rd_ifS (fun h => ?_) (fun h => ?_)
    · have e : c = 112 := sign_eq.mp (h.trans (by decide +kernel : ("p" : Str) = ⟨#[112]⟩))
      rw [if_pos e] at k
      walk_at "rd"
      exact ⟨i, 4, rfl, k⟩
    · have e : ¬ c = 112 := fun z => h ((sign_eq.mpr z).trans (by decide +kernel : (⟨#[112]⟩ : Str) = "p"))
      rw [if_neg e] at k
      walk_at "rd"
      refine rd_ifS (fun h => ?_) (fun h => ?_)
      · have e : c = 115 := sign_eq.mp (h.trans (by decide +kernel : ("s" : Str) = ⟨#[115]⟩))
        rw [if_pos e] at k
        walk_at "rd"
        exact ⟨i, m, rfl, k⟩
      · have e : ¬ c = 115 := fun z => h ((sign_eq.mpr z).trans (by decide +kernel : (⟨#[115]⟩ : Str) = "s"))
        rw [if_neg e] at k
        walk_at "rd"
        exact ⟨i, rfl, k⟩
def spRowFits : Sp := fun vs H Q _ => ∃ (v : V) (r : Rw) (m : Int), vs = [v, .int m] ∧ Rp H v r.d ∧ RwForm r ∧ ∀ H', Same H H' → Q (.bl (rowFits r m)) H'
theorem ok_rowFits {f : Addr} {fd : FuncData} (B : BT mg) (F : Fun K "row_fits" "row_fits" s_row_fits f fd) (hm : mg "row_fits" = some (.ref f)) (G_ROW_FORMS : GFo K w mg) (C_number_fits : Cal P w K mg base "number_fits" 3 ["letter", "number", "many"] spNFits) :
    Cal P w K mg base "row_fits" 4 ["row", "many"] spRowFits := by
  refine ⟨f, fd, hm, F.kp, F.binds (ps := ["row", "many"]) fun _ _ _ _ _ _ us hl => match us, hl with | [_, _], _ => rfl, ?_⟩
  refine F.ok sc_row_fits (fun vs H Q E h => ?_) (fun cdv A outer s H vs Q E hr h => ?_)
  · obtain ⟨v, r, m, rfl, _⟩ := h
    rfl
  · obtain ⟨v, ⟨op, ns⟩, m, rfl, hv, ⟨l, hl, hlen⟩, k⟩ := h
    refine ⟨_, (pss_cons (ps_set (i := 2) sc_row_fits.nd rfl (Or.inl rfl) (pe_kget (pe_fo G_ROW_FORMS rfl) (pe_ix (r := rIxT K) ix_tup (pv 0) pe_int (fun _ _ => rfl)) ⟨rfl, rfl, rfl, rfl⟩))
 (pss_cons (ps_if (PW.pt (pw_or (pt_cmpR op_isN (pv 2) pe_non (nomark _)) (pw_or1 (pt_cmpR op_ne (pe_callB (cr_lenS (K := K)) rfl B.g_len PySem.boot_len (pa_cons (pv 0) pa_nil)) (pe_op op_add (pe_callB call_len_str rfl B.g_len PySem.boot_len (pa_cons (pv 2) pa_nil)) pe_int) (nomark _))))) (pss_one (ps_ret pe_bl)) pss_nil)
 (pss_one (ps_ret (pe_callB (r := rAll K) (cr_all rfl) rfl B.g_all (by decide +kernel) (pa_cons (pe_lc (own := [("letter", 3), ("number", 4)]) (g := gTup K 2 (gCons (gName 3) (gCons (gName 4) (gNil)))) (tt := tYes) rfl sc_row_fits.nd (pi_zipS rfl B.g_zip (pa_cons (pv 2) (pa_cons (pe_slice (r := rSlT K) sl_tup (pv 0) (po_some pe_int) po_none) pa_nil))) (blkOk_by (own := [("letter", 3), ("number", 4)]) (N := ["row", "many", "letters", "letter", "number"]) (sc := defScope s_row_fits) (by decide +kernel)) (fun _ _ _ _ _ => (pg_tup (by rfl) (pgs_cons (pg_name (i := 3) sc_row_fits.nd rfl (by first | exact Or.inl rfl | exact Or.inr rfl)) (pgs_cons (pg_name (i := 4) sc_row_fits.nd rfl (by first | exact Or.inl rfl | exact Or.inr rfl)) pgs_nil)))) (fun _ _ _ _ _ => pts_nil) (fun _ _ _ _ _ => (pe_cal C_number_fits (hr.mono (by omega)) rfl (pa_cons (pv 3) (pa_cons (pv 4) (pa_cons (pv 1) pa_nil)))))) pa_nil)))))), ?_⟩
    obtain ⟨p, xs, rfl, hp, ha⟩ := hv.tup_inv
    obtain ⟨x0, xr, rfl, h0, hr'⟩ := ha.cons_inv
    have e0 := h0.str_inv
    subst e0
    have er := hr'.ints_inv
    subst er
    walk_at "rds"
    refine rd_fo (w := w) ?_ ?_
    · walk_at "rd"
      refine ⟨_, l, rfl, hl, ?_⟩
      walk_at "rd"
      refine ⟨rfl, ?_⟩
      walk_at "rd"
      refine rd_ifF (fun z => nomatch z) ?_
      walk_at "rd"
      refine ⟨p, _, rfl, .inr (SqT.of hp), ?_⟩
      walk_at "rd"
      refine ⟨l, rfl, Nat.le_trans (form_len hl) (by decide), ?_⟩
      walk_at "rd"
      refine rd_ifIn (fun e => ?_) (fun e => ?_)
      · walk_at "rd"
        refine ⟨1, rfl, ?_⟩
        walk_at "rd"
        refine rd_cut1 hp fun q hq => ?_
        walk_at "rd"
        refine ⟨l, q, _, rfl, SqT.of upd_same, fun D hD => ?_⟩
        have hz : (l.cps.toList.zip ns).length = ns.length := by rw [List.length_zip, Array.length_toList]; simp at hlen; omega
        refine lc_it (walk_zipS (ys := ns.map V.int) (n := ns.length) (by rw [List.length_map]; simp at hlen; omega)) (CompL D (upd H q (.tup (ns.map V.int))) (l.cps.toList.zip ns) (fun z => V.bl (numFits z.1 z.2 m))) (CompL.start hD) (fun i H' _ p => SqT.of (p.2 _ _ upd_same)) ?_ ?_
        · rintro i x H2 H3 hi p ⟨T, a, b, rfl, hT, rfl, ea, eb⟩
          have hi' : i < l.cps.size := by simp at hlen; omega
          dsimp only at ea eb
          rw [Array.getElem?_eq_getElem hi'] at ea
          rw [List.getElem?_map, List.getElem?_eq_getElem hi] at eb
          cases ea
          cases eb
          walk_at "rd"
          refine ⟨rfl, ?_⟩
          walk_at "rd"
          refine ⟨_, _, _, rfl, ?_⟩
          have l3 := form_len hl
          have l4 : ns.length ≤ 3 := by simp at hlen; have : l.length = l.cps.size := rfl; omega
          refine p.step hD (by omega) (b := (l.cps[i], ns[i])) ?_ (same_upd hT) rfl
          exact List.getElem?_zip_eq_some.mpr ⟨by simp [hi'], by simp [hi]⟩
        · intro H2 p
          have hd := p.end hz.symm
          walk_at "rd"
          refine rd_all (f := fun z : Nat × Int => numFits z.1 z.2 m) hd ?_
          rw [fits_zip]
          have := k H2 ((same_upd hq).trans p.2)
          unfold rowFits at this
          dsimp only at this
          rw [hl] at this
          exact this
      · exact absurd (by simp at hlen ⊢; have : l.length = l.cps.size := rfl; omega) e
    · rintro R R' hR ⟨v, e1, h1⟩
      refine ⟨v, e1, ?_⟩
      obtain ⟨p, xs, i, v, a, b, c, d, q⟩ := h1
      exact ⟨p, xs, i, v, a, b, c, d, hR _ _ q⟩
end
open PySem PySem.Spec L2
section
variable {P : Program} {w : World} {K : PySem.W.Frag} {mg : Str → Option Value} {base : Heap}
def spWordFits : Sp := fun vs H Q _ => ∃ (v : V) (x : Wd) (b m : Int), vs = [v, .int b, .int m] ∧ Rp H v x.d ∧ ∀ H', Same H H' → Q (.bl (wdFits x b m)) H'
theorem ok_wordFits {f : Addr} {fd : FuncData} (B : BT mg) (F : Fun K "word_fits" "word_fits" s_word_fits f fd) (hm : mg "word_fits" = some (.ref f)) (C_is_whole : Cal P w K mg base "is_whole" 1 ["number"] spWhole) (C_is_below : Cal P w K mg base "is_below" 2 ["number", "bound"] spBelow) (C_is_ring : Cal P w K mg base "is_ring" 3 ["number"] spRing) :
    Cal P w K mg base "word_fits" 4 ["word", "base", "many"] spWordFits := by
  refine ⟨f, fd, hm, F.kp, F.binds (ps := ["word", "base", "many"]) fun _ _ _ _ _ _ us hl => match us, hl with | [_, _, _], _ => rfl, ?_⟩
  refine F.ok sc_word_fits (fun vs H Q E h => ?_) (fun cdv A outer s H vs Q E hr h => ?_)
  · obtain ⟨v, x, b, m, rfl, _⟩ := h
    rfl
  · obtain ⟨v, x, b, m, rfl, hv, k⟩ := h
    refine ⟨_, (pss_cons (ps_if (pt_cmpR op_eq (pe_ix (r := rIxT K) ix_tup (pv 0) pe_int (fun _ _ => rfl)) pe_str (nomark _)) (pss_one (ps_ret (pe_cal C_is_below (hr.mono (by omega)) rfl (pa_cons (pe_ix (r := rIxT K) ix_tup (pv 0) pe_int (fun _ _ => rfl)) (pa_cons (pv 1) pa_nil))))) pss_nil)
 (pss_cons (ps_asg (pe_slice (r := rSlT K) sl_tup (pv 0) (po_some pe_int) po_none) (pg_tup (by rfl) (pgs_cons (pg_name (i := 3) sc_word_fits.nd rfl (Or.inl rfl)) (pgs_cons (pg_name (i := 4) sc_word_fits.nd rfl (Or.inl rfl)) (pgs_cons (pg_name (i := 5) sc_word_fits.nd rfl (Or.inl rfl)) pgs_nil)))))
 (pss_one (ps_ret (pe_and (pe_cal C_is_ring (hr.mono (by omega)) rfl (pa_cons (pv 3) pa_nil)) (pe_and (pe_cal C_is_below (hr.mono (by omega)) rfl (pa_cons (pv 4) (pa_cons (pv 2) pa_nil))) (pe_and (pe_cal C_is_whole (hr.mono (by omega)) rfl (pa_cons (pv 5) pa_nil)) (pe_one (pe_cmpR op_ge (pv 5) pe_int (nomark _)))))))))), ?_⟩
    cases x with
    | num n =>
      obtain ⟨p, xs, rfl, hp, ha⟩ := hv.tup_inv
      obtain ⟨x0, xr, rfl, h0, ha⟩ := ha.cons_inv
      obtain ⟨x1, xr, rfl, h1, ha⟩ := ha.cons_inv
      have e := ha.nil_inv; subst e
      have e := h0.str_inv; subst e
      have e := h1.int_inv; subst e
      walk_at "rds"
      refine rd_ifT rfl ?_
      walk_at "rd"
      exact ⟨n, b, rfl, k _ (Same.refl _)⟩
    | ptr r sg pl =>
      obtain ⟨p, xs, rfl, hp, ha⟩ := hv.tup_inv
      obtain ⟨x0, xr, rfl, h0, ha⟩ := ha.cons_inv
      obtain ⟨x1, xr, rfl, h1, ha⟩ := ha.cons_inv
      obtain ⟨x2, xr, rfl, h2, ha⟩ := ha.cons_inv
      obtain ⟨x3, xr, rfl, h3, ha⟩ := ha.cons_inv
      have e := ha.nil_inv; subst e
      have e := h0.str_inv; subst e
      have e := h1.int_inv; subst e
      have e := h2.int_inv; subst e
      have e := h3.int_inv; subst e
      walk_at "rds"
      refine rd_ifF (by decide +kernel) ?_
      walk_at "rd"
      refine ⟨1, rfl, ?_⟩
      walk_at "rd"
      refine rd_cut1 hp fun q hq => ?_
      have k' : Q (.bl (below r 8 && (below sg m && decide (0 ≤ pl)))) (upd H q (.tup [.int r, .int sg, .int pl])) := k _ (same_upd hq)
      walk_at "rd"
      refine ⟨r, rfl, ?_⟩
      walk_at "rd"
      refine rd_ifb (fun hb => ?_) (fun hb => ?_)
      · rw [hb] at k'
        walk_at "rd"
        refine ⟨sg, m, rfl, ?_⟩
        walk_at "rd"
        refine rd_ifb (fun hb => ?_) (fun hb => ?_)
        · rw [hb] at k'
          walk_at "rd"
          refine ⟨pl, rfl, ?_⟩
          walk_at "rd"
          exact k'
        · rw [hb] at k'
          exact k'
      · rw [hb] at k'
        exact k'
def spBrFits : Sp := fun vs H Q _ => ∃ (v : V) (a b c : Int), vs = [v] ∧ Rp H v (.tuple [.int a, .int b, .int c]) ∧ ∀ H', Same H H' → Q (.bl (brFits a b c)) H'
theorem ok_brFits {f : Addr} {fd : FuncData} (B : BT mg) (F : Fun K "brackets_fit" "brackets_fit" s_brackets_fit f fd) (hm : mg "brackets_fit" = some (.ref f)) (C_is_ring : Cal P w K mg base "is_ring" 3 ["number"] spRing) :
    Cal P w K mg base "brackets_fit" 4 ["brackets"] spBrFits := by
  refine ⟨f, fd, hm, F.kp, F.binds (ps := ["brackets"]) fun _ _ _ _ _ _ us hl => match us, hl with | [_], _ => rfl, ?_⟩
  refine F.ok sc_brackets_fit (fun vs H Q E h => ?_) (fun cdv A outer s H vs Q E hr h => ?_)
  · obtain ⟨v, a, b, c, rfl, _⟩ := h
    rfl
  · obtain ⟨v, a, b, c, rfl, hv, k⟩ := h
    refine ⟨_, (pss_cons (ps_if (PW.pt (pw_or (pt_not (pt_val (pe_callB (r := rIsi K) call_isi rfl B.g_isinstance (by decide +kernel) (pa_cons (pv 0) (pa_cons (pe_bltn (v := .ty "tuple") rfl B.g_tuple (by decide +kernel) rfl) pa_nil))))) (pw_or1 (pt_cmpR op_ne (pe_callB (cr_lenS (K := K)) rfl B.g_len PySem.boot_len (pa_cons (pv 0) pa_nil)) pe_int (nomark _))))) (pss_one (ps_ret pe_bl)) pss_nil)
 (pss_cons (ps_if (pt_not (pt_val (pe_callB (r := rAll K) (cr_all rfl) rfl B.g_all (by decide +kernel) (pa_cons (pe_lc (own := [("ring", 4)]) (g := gName 4) (tt := tYes) rfl sc_brackets_fit.nd (pi_tupK (K := K) (pv 0)) (blkOk_by (own := [("ring", 4)]) (N := ["brackets", "r1", "r2", "r3", "ring"]) (sc := defScope s_brackets_fit) (by decide +kernel)) (fun _ _ _ _ _ => (pg_name (i := 4) sc_brackets_fit.nd rfl (by first | exact Or.inl rfl | exact Or.inr rfl))) (fun _ _ _ _ _ => pts_nil) (fun _ _ _ _ _ => (pe_cal C_is_ring (hr.mono (by omega)) rfl (pa_cons (pv 4) pa_nil)))) pa_nil)))) (pss_one (ps_ret pe_bl)) pss_nil)
 (pss_cons (ps_asg (pv 0) (pg_tup (by rfl) (pgs_cons (pg_name (i := 1) sc_brackets_fit.nd rfl (Or.inl rfl)) (pgs_cons (pg_name (i := 2) sc_brackets_fit.nd rfl (Or.inl rfl)) (pgs_cons (pg_name (i := 3) sc_brackets_fit.nd rfl (Or.inl rfl)) pgs_nil)))))
 (pss_one (ps_ret (pe_chain op_le op_le (pv 1) (pv 2) (pv 3))))))), ?_⟩
    obtain ⟨p, xs, rfl, hp, ha⟩ := hv.tup_inv
    have e := RpAll.ints_inv (ns := [a, b, c]) ha
    subst e
    replace hp : H p = some (.tup [.int a, .int b, .int c]) := hp
    walk_at "rds"
    refine ⟨p, _, rfl, .inr (SqT.of hp), ?_⟩
    walk_at "rd"
    refine rd_ifIn (fun e => ?_) (fun e => absurd rfl e)
    walk_at "rd"
    refine ⟨p, rfl, ⟨_, SqT.of hp⟩, fun D hD => ?_⟩
    refine lc_it (walk_tup (xs := [V.int a, V.int b, V.int c])) (CompL D H [a, b, c] (fun z => V.bl (below z 8))) (CompL.start hD) (fun i H' _ p => SqT.of (p.2 _ _ hp)) ?_ ?_
    · rintro i x H2 H3 hi pc ⟨rfl, hx⟩
      have hx' : ([a, b, c].map V.int)[i]? = some x := hx
      rw [List.getElem?_map] at hx'
      obtain ⟨z, hz, rfl⟩ := Option.map_eq_some_iff.mp hx'
      walk_at "rd"
      refine ⟨rfl, ?_⟩
      walk_at "rd"
      refine ⟨z, rfl, ?_⟩
      exact pc.step hD (by simp at hi; omega) hz (Same.refl _) rfl
    · intro H2 pc
      have hd := pc.end rfl
      have k2 := k H2 pc.2
      have hp2 := pc.2 _ _ hp
      walk_at "rd"
      refine rd_all (f := fun z : Int => below z 8) hd ?_
      walk_at "rd"
      unfold brFits at k2
      refine rd_ifn (fun hb => ?_) (fun hb => ?_)
      · have hb' : below a 8 = true ∧ below b 8 = true ∧ below c 8 = true := by simpa using hb
        rw [hb'.1, hb'.2.1, hb'.2.2] at k2
        walk_at "rd"
        refine rd_ifd (fun h => ?_) (fun h => ?_)
        · rw [decide_eq_true h] at k2
          walk_at "rd"
          exact k2
        · rw [decide_eq_false h] at k2
          exact k2
      · have e : (below a 8 && (below b 8 && (below c 8 && (decide (a ≤ b) && decide (b ≤ c))))) = false := by
          have hb' : (below a 8 && (below b 8 && (below c 8 && true))) = false := hb
          revert hb'
          cases below a 8 <;> cases below b 8 <;> cases below c 8 <;> simp
        rw [e] at k2
        walk_at "rd"
        exact k2
def spSgFits : Sp := fun vs H Q _ => ∃ (v : V) (x : Sg) (b m : Int), vs = [v, .int b, .int m] ∧ Rp H v x.d ∧ SgForm x ∧ x.ws.length ≤ 900 ∧ x.rs.length ≤ 900 ∧ ∀ H', Same H H' → Q (.bl (sgFits x b m)) H'
theorem ok_sgFits {f : Addr} {fd : FuncData} (B : BT mg) (F : Fun K "segment_fits" "segment_fits" s_segment_fits f fd) (hm : mg "segment_fits" = some (.ref f)) (G_RIGHTS : GTu K mg "RIGHTS" (rightsL.map V.str)) (G_MOST_WORDS : GI mg "MOST_WORDS" 16) (G_MOST_ROWS : GI mg "MOST_ROWS" 24)
    (C_is_below : Cal P w K mg base "is_below" 2 ["number", "bound"] spBelow) (C_brackets_fit : Cal P w K mg base "brackets_fit" 4 ["brackets"] spBrFits) (C_word_fits : Cal P w K mg base "word_fits" 4 ["word", "base", "many"] spWordFits) (C_row_fits : Cal P w K mg base "row_fits" 4 ["row", "many"] spRowFits) :
    Cal P w K mg base "segment_fits" 5 ["segment", "base", "many"] spSgFits := by
  refine ⟨f, fd, hm, F.kp, F.binds (ps := ["segment", "base", "many"]) fun _ _ _ _ _ _ us hl => match us, hl with | [_, _, _], _ => rfl, ?_⟩
  refine F.ok sc_segment_fits (fun vs H Q E h => ?_) (fun cdv A outer s H vs Q E hr h => ?_)
  · obtain ⟨v, x, b, m, rfl, _⟩ := h
    rfl
  · obtain ⟨v, ⟨r1, r2, r3, ri, ga, ws, rs⟩, b, m, rfl, hv, fo, lw, lr, k⟩ := h
    refine ⟨_, (pss_cons (ps_asg (pv 0) (pg_tup (by rfl) (pgs_cons (pg_name (i := 3) sc_segment_fits.nd rfl (Or.inl rfl)) (pgs_cons (pg_name (i := 4) sc_segment_fits.nd rfl (Or.inl rfl)) (pgs_cons (pg_name (i := 5) sc_segment_fits.nd rfl (Or.inl rfl)) (pgs_cons (pg_name (i := 6) sc_segment_fits.nd rfl (Or.inl rfl)) (pgs_cons (pg_name (i := 7) sc_segment_fits.nd rfl (Or.inl rfl)) pgs_nil)))))))
 (pss_cons (ps_if (PW.pt (pw_or (pt_not (pt_val (pe_cal C_brackets_fit (hr.mono (by omega)) rfl (pa_cons (pv 3) pa_nil)))) (pw_or (pt_cmpR (r := rIn K true) op_notIn_seq (pv 4) (pe_gt G_RIGHTS rfl) (by rfl)) (pw_or1 (pt_not (pt_val (pe_cal C_is_below (hr.mono (by omega)) rfl (pa_cons (pv 5) (pa_cons (pe_op op_add (pe_callB (cr_lenS (K := K)) rfl B.g_len PySem.boot_len (pa_cons (pv 7) pa_nil)) pe_int) pa_nil))))))))) (pss_one (ps_ret pe_bl)) pss_nil)
 (pss_cons (ps_if (PW.pt (pw_or (pt_cmpR op_gt (pe_callB (cr_lenS (K := K)) rfl B.g_len PySem.boot_len (pa_cons (pv 6) pa_nil)) (pe_gi G_MOST_WORDS rfl) (nomark _)) (pw_or1 (pt_cmpR op_gt (pe_callB (cr_lenS (K := K)) rfl B.g_len PySem.boot_len (pa_cons (pv 7) pa_nil)) (pe_gi G_MOST_ROWS rfl) (nomark _))))) (pss_one (ps_ret pe_bl)) pss_nil)
 (pss_cons (ps_if (pt_not (pt_val (pe_callB (r := rAll K) (cr_all rfl) rfl B.g_all (by decide +kernel) (pa_cons (pe_lc (own := [("word", 8)]) (g := gName 8) (tt := tYes) rfl sc_segment_fits.nd (pi_tupK (K := K) (pv 6)) (blkOk_by (own := [("word", 8)]) (N := ["segment", "base", "many", "brackets", "rights", "gates", "words", "rows", "word", "row"]) (sc := defScope s_segment_fits) (by decide +kernel)) (fun _ _ _ _ _ => (pg_name (i := 8) sc_segment_fits.nd rfl (by first | exact Or.inl rfl | exact Or.inr rfl))) (fun _ _ _ _ _ => pts_nil) (fun _ _ _ _ _ => (pe_cal C_word_fits (hr.mono (by omega)) rfl (pa_cons (pv 8) (pa_cons (pv 1) (pa_cons (pv 2) pa_nil)))))) pa_nil)))) (pss_one (ps_ret pe_bl)) pss_nil)
 (pss_one (ps_ret (pe_callB (r := rAll K) (cr_all rfl) rfl B.g_all (by decide +kernel) (pa_cons (pe_lc (own := [("row", 9)]) (g := gName 9) (tt := tYes) rfl sc_segment_fits.nd (pi_tupK (K := K) (pv 7)) (blkOk_by (own := [("row", 9)]) (N := ["segment", "base", "many", "brackets", "rights", "gates", "words", "rows", "word", "row"]) (sc := defScope s_segment_fits) (by decide +kernel)) (fun _ _ _ _ _ => (pg_name (i := 9) sc_segment_fits.nd rfl (by first | exact Or.inl rfl | exact Or.inr rfl))) (fun _ _ _ _ _ => pts_nil) (fun _ _ _ _ _ => (pe_cal C_row_fits (hr.mono (by omega)) rfl (pa_cons (pv 9) (pa_cons (pv 2) pa_nil))))) pa_nil)))))))), ?_⟩
    obtain ⟨p, xs, rfl, hp, ha⟩ := hv.tup_inv
    obtain ⟨x0, xr, rfl, h0, ha⟩ := ha.cons_inv
    obtain ⟨x1, xr, rfl, h1, ha⟩ := ha.cons_inv
    obtain ⟨x2, xr, rfl, h2, ha⟩ := ha.cons_inv
    obtain ⟨x3, xr, rfl, h3, ha⟩ := ha.cons_inv
    obtain ⟨x4, xr, rfl, h4, ha⟩ := ha.cons_inv
    have e := ha.nil_inv; subst e
    have e := h1.str_inv; subst e
    have e := h2.int_inv; subst e
    obtain ⟨pw, vw, rfl, hpw, haw⟩ := h3.tup_inv
    obtain ⟨pr, vr, rfl, hpr, har⟩ := h4.tup_inv
    dsimp only at haw har fo lw lr
    have lvw : vw.length = ws.length := by rw [haw.length, List.length_map]
    have lvr : vr.length = rs.length := by rw [har.length, List.length_map]
    unfold sgFits at k
    dsimp only at k
    walk_at "rds"
    refine ⟨_, r1, r2, r3, rfl, h0, fun H1 s1 => ?_⟩
    walk_at "rd"
    refine rd_ifn (fun hb => ?_) (fun hb => ?_)
    case refine_2 =>
      have := k H1 s1
      rw [hb] at this
      walk_at "rd"
      exact this
    rw [hb] at k
    walk_at "rd"
    intro aR hR
    refine rd_notInT (hR H1) rfl (by rfl) ?_
    walk_at "rd"
    refine rd_ifn (fun hb => ?_) (fun hb => ?_)
    case refine_2 =>
      have := k H1 s1
      rw [show riFits ri = false from hb] at this
      walk_at "rd"
      exact this
    rw [show riFits ri = true from hb] at k
    walk_at "rd"
    refine ⟨pr, vr, rfl, .inr (SqT.of (s1 _ _ hpr)), ?_⟩
    walk_at "rd"
    refine ⟨ga, _, rfl, ?_⟩
    walk_at "rd"
    refine rd_ifn (fun hb => ?_) (fun hb => ?_)
    case refine_2 =>
      have := k H1 s1
      rw [show below ga (rs.length + 1) = false by rw [← lvr]; exact hb] at this
      walk_at "rd"
      exact this
    rw [show below ga (rs.length + 1) = true by rw [← lvr]; exact hb] at k
    walk_at "rd"
    refine ⟨pw, vw, rfl, .inr (SqT.of (s1 _ _ hpw)), ?_⟩
    walk_at "rd"
    refine rd_ifd (fun hb => ?_) (fun hb => ?_)
    · have := k H1 s1
      rw [decide_eq_false (show ¬ ws.length ≤ 16 by omega)] at this
      walk_at "rd"
      exact this
    rw [decide_eq_true (show ws.length ≤ 16 by omega)] at k
    walk_at "rd"
    refine ⟨pr, vr, rfl, .inr (SqT.of (s1 _ _ hpr)), ?_⟩
    walk_at "rd"
    refine rd_ifd (fun hb => ?_) (fun hb => ?_)
    · have := k H1 s1
      rw [decide_eq_false (show ¬ rs.length ≤ 24 by omega)] at this
      walk_at "rd"
      exact this
    rw [decide_eq_true (show rs.length ≤ 24 by omega)] at k
    walk_at "rd"
    refine ⟨pw, rfl, ⟨_, SqT.of (s1 _ _ hpw)⟩, fun D hD => ?_⟩
    refine lc_it (walk_tup (xs := vw)) (CompL D H1 ws (fun z => V.bl (wdFits z b m))) (CompL.start hD) (fun i H' _ p => SqT.of (p.2 _ _ (s1 _ _ hpw))) ?_ ?_
    · rintro i x H2 H3 hi pc ⟨rfl, hx⟩
      obtain ⟨d, hd, rd'⟩ := haw.get hx
      rw [List.getElem?_map] at hd
      obtain ⟨z, hz, rfl⟩ := Option.map_eq_some_iff.mp hd
      walk_at "rd"
      refine ⟨rfl, ?_⟩
      walk_at "rd"
      refine ⟨x, z, b, m, rfl, rd'.keep (Tk.of (s1.trans pc.2)), fun H4 s4 => ?_⟩
      exact pc.step hD (by omega) hz s4 rfl
    intro H2 pc
    have hd := pc.end lvw
    have s2 := s1.trans pc.2
    walk_at "rd"
    refine rd_all (f := fun z : Wd => wdFits z b m) hd ?_
    walk_at "rd"
    refine rd_ifn (fun hb => ?_) (fun hb => ?_)
    case refine_2 =>
      have := k H2 s2
      rw [hb] at this
      walk_at "rd"
      exact this
    rw [hb] at k
    walk_at "rd"
    refine ⟨pr, rfl, ⟨_, SqT.of (s2 _ _ hpr)⟩, fun D2 hD2 => ?_⟩
    refine lc_it (walk_tup (xs := vr)) (CompL D2 H2 rs (fun z => V.bl (rowFits z m))) (CompL.start hD2) (fun i H' _ p => SqT.of (p.2 _ _ (s2 _ _ hpr))) ?_ ?_
    · rintro i x H3 H4 hi pc ⟨rfl, hx⟩
      obtain ⟨d, hd, rd'⟩ := har.get hx
      rw [List.getElem?_map] at hd
      obtain ⟨z, hz, rfl⟩ := Option.map_eq_some_iff.mp hd
      walk_at "rd"
      refine ⟨rfl, ?_⟩
      walk_at "rd"
      refine ⟨x, z, m, rfl, rd'.keep (Tk.of (s2.trans pc.2)), fo z (List.mem_of_getElem? hz), fun H4 s4 => ?_⟩
      exact pc.step hD2 (by omega) hz s4 rfl
    intro H3 pc
    have hd := pc.end lvr
    have s3 := s2.trans pc.2
    walk_at "rd"
    refine rd_all (f := fun z : Rw => rowFits z m) hd ?_
    exact k H3 s3
end
open PySem PySem.Spec L2
section
variable {P : Program} {w : World} {K : PySem.W.Frag} {mg : Str → Option Value} {base : Heap}
theorem ok_init {f C : Addr} {fd : FuncData} (B : BT mg) (T : MC K mg C) (F : FunD K "__init__" "Machine.__init__" (defArgs s_Machine__init) (defBody s_Machine__init) (defScope s_Machine__init) [] [("base", .int 16)] f fd) (G_MOST_SEGMENTS : GI mg "MOST_SEGMENTS" 8) (G_LEAST_BASE : GI mg "LEAST_BASE" 2)
    (C_is_whole : Cal P w K mg base "is_whole" 1 ["number"] spWhole) (C_segment_fits : Cal P w K mg base "segment_fits" 5 ["segment", "base", "many"] spSgFits) :
    FnOk P w K mg base CX0 6 f fd ["self", "segments", "base"] (spInit C) := by
  refine F.ok sc_Machine__init (fun vs H Q E h => ?_) (fun cdv A outer s H vs Q E hr h => ?_)
  · obtain ⟨x, dx, L, us, xs, b, rfl, _⟩ := h
    rfl
  · obtain ⟨x, dx, L, us, xs, b, rfl, hx, hL, ha, l1, l8, b2, hs, k⟩ := h
    refine ⟨_, PSs.nox (pss_cons (ps_set (i := 3) sc_Machine__init.nd rfl (Or.inl rfl) (pe_callB (cr_lenS (K := K)) rfl B.g_len PySem.boot_len (pa_cons (pv 1) pa_nil)))
 (pss_cons (ps_if (PW.pt (pw_or (pt_not (pt_chain op_le op_le pe_int (pv 3) (pe_gi G_MOST_SEGMENTS rfl))) (pw_or (pt_not (pt_val (pe_cal C_is_whole (hr.mono (by omega)) rfl (pa_cons (pv 2) pa_nil)))) (pw_or1 (pt_cmpR op_lt (pv 2) (pe_gi G_LEAST_BASE rfl) (nomark _)))))) (pss_one ps_never) pss_nil)
 (pss_cons (ps_for PassesOwn.never rfl (pi_enum rfl B.g_enumerate (pa_cons (pv 1) pa_nil)) (pg_tup (by rfl) (pgs_cons (pg_name (i := 4) sc_Machine__init.nd rfl (Or.inl rfl)) (pgs_cons (pg_name (i := 5) sc_Machine__init.nd rfl (Or.inl rfl)) pgs_nil)))
 (pss_one (ps_if (pt_not (pt_val (pe_cal C_segment_fits (hr.mono (by omega)) rfl (pa_cons (pv 5) (pa_cons (pv 2) (pa_cons (pv 3) pa_nil)))))) (pss_one ps_never) pss_nil)))
 (pss_cons (ps_fldK (K := K) (pv 0) (pe_callTy (cr_tupOf (K := K)) rfl B.g_tuple (by decide +kernel) (pa_cons (pv 1) pa_nil)) rfl)
 (pss_one (ps_fldK (K := K) (pv 0) (pv 2) rfl)))))), ?_⟩
    have lu : us.length = xs.length := by rw [ha.length, List.length_map]
    walk_at "rds"
    refine ⟨L, us, rfl, .inl (SqL.of hL), ?_⟩
    walk_at "rd"
    refine rd_ifT (by omega) ?_
    walk_at "rd"
    rw [decide_eq_true (show ((us.length : Nat) : Int) ≤ 8 by omega)]
    walk_at "rd"
    refine ⟨b, rfl, ?_⟩
    walk_at "rd"
    refine rd_ifF (by omega) ?_
    walk_at "rd"
    refine ⟨L, us, rfl, SqL.of hL, ?_⟩
    refine for_inv walk_enum (fun i σ' H' => (∃ c1 c2, σ' = [some (.ref x), some (.ref L), some (.int b), some (.int us.length), c1, c2]) ∧ Same H H') ⟨⟨_, _, rfl⟩, Same.refl _⟩ (fun i σ' H' _ p => SqL.of (p.2 _ _ hL)) ?_ ?_
    · rintro B' i v σ1 H1 H2 hi ⟨⟨c1, c2, rfl⟩, s1⟩ ⟨T', y, z, rfl, hT, rfl, ey, ez⟩
      cases ey
      obtain ⟨d, hd, rz⟩ := ha.get ez
      rw [List.getElem?_map] at hd
      obtain ⟨sg, hsg, rfl⟩ := Option.map_eq_some_iff.mp hd
      obtain ⟨fo, fi⟩ := hs sg (List.mem_of_getElem? hsg)
      have sm := sg_small fi
      walk_at "rd"
      refine ⟨z, sg, b, _, rfl, rz.keep (Tk.of (s1.trans (same_upd hT))), fo, by omega, by omega, fun H3 s3 => ?_⟩
      rw [lu, fi]
      walk_at "rd"
      exact ⟨⟨_, _, rfl⟩, s1.trans ((same_upd hT).trans s3)⟩
    · rintro σ1 H1 ⟨⟨c1, c2, rfl⟩, s1⟩
      walk_at "rd"
      refine ⟨L, us, rfl, .inl ⟨SqL.of (s1 _ _ hL), fun q hq => ?_⟩⟩
      walk_at "rd"
      have hx1 := s1 _ _ hx
      refine ⟨x, C, dx, [], rfl, (same_upd hq) _ _ hx1, T.cl, T.nS, (by show 0 < 1000; decide), ?_⟩
      walk_at "rd"
      refine ⟨x, C, dx, _, rfl, upd_same, T.cl, T.nB, (by show 1 < 1000; decide), ?_⟩
      refine k _ ⟨dx, q, upd_same, ?_⟩ fun c o e hc => ?_
      · have hqx : q ≠ x := Ne.symm (ne_of_none hx1 hq)
        rw [upd_ne hqx, upd_ne hqx, upd_same]
      · rw [upd_ne hc, upd_ne hc]
        exact (same_upd hq) _ _ (s1 _ _ e)
theorem ok_segAt {f C : Addr} {fd : FuncData} (B : BT mg) (T : MC K mg C) (M : Meth K C "segment" f) (F : Fun K "segment" "Machine.segment" s_Machine_segment f fd) (C_is_below : Cal P w K mg base "is_below" 2 ["number", "bound"] spBelow) : Mth P w K mg base C "segment" 3 ["self", "number"] (spSegAt C) := by
  refine ⟨f, fd, M, F.binds (ps := ["self", "number"]) fun _ _ _ _ _ _ us hl => match us, hl with | [_, _], _ => rfl, ?_⟩
  refine F.ok sc_Machine_segment (fun vs H Q E h => ?_) (fun cdv A outer s H vs Q E hr h => ?_)
  · obtain ⟨x, us, b, k, v, rfl, _⟩ := h
    rfl
  · obtain ⟨x, us, b, i, v, rfl, ⟨dx, q, h1, h2⟩, i0, i1, hv, k⟩ := h
    refine ⟨_, (pss_cons (ps_if (pt_not (pt_val (pe_cal C_is_below (hr.mono (by omega)) rfl (pa_cons (pv 1) (pa_cons (pe_callB (cr_lenS (K := K)) rfl B.g_len PySem.boot_len (pa_cons (pe_fldK (K := K) (pv 0) rfl) pa_nil)) pa_nil))))) (pss_one ps_never) pss_nil)
 (pss_one (ps_ret (pe_ix (r := rIxT K) ix_tup (pe_fldK (K := K) (pv 0) rfl) (pv 1) (fun _ _ => rfl))))), ?_⟩
    walk_at "rds"
    refine ⟨x, C, dx, _, _, rfl, h1, T.cl, T.nS, mFlds_s q b, ?_⟩
    walk_at "rd"
    refine ⟨q, us, rfl, .inr (SqT.of h2), ?_⟩
    walk_at "rd"
    refine ⟨i, _, rfl, ?_⟩
    rw [below_of i0 i1]
    walk_at "rd"
    refine ⟨x, C, dx, _, _, rfl, h1, T.cl, T.nS, mFlds_s q b, ?_⟩
    walk_at "rd"
    refine rd_ixT h2 (at_of (by omega) hv) ?_
    exact k
theorem ok_len {f C : Addr} {fd : FuncData} (B : BT mg) (T : MC K mg C) (M : Meth K C "__len__" f) (F : Fun K "__len__" "Machine.__len__" s_Machine__len f fd) : Mth P w K mg base C "__len__" 1 ["self"] (spLen C) := by
  refine ⟨f, fd, M, F.binds (ps := ["self"]) fun _ _ _ _ _ _ us hl => match us, hl with | [_], _ => rfl, ?_⟩
  refine F.ok sc_Machine__len (fun vs H Q E h => ?_) (fun cdv A outer s H vs Q E hr h => ?_)
  · obtain ⟨x, us, b, rfl, _⟩ := h
    rfl
  · obtain ⟨x, us, b, rfl, ⟨dx, q, h1, h2⟩, k⟩ := h
    refine ⟨_, (pss_one (ps_ret (pe_callB (cr_lenS (K := K)) rfl B.g_len PySem.boot_len (pa_cons (pe_fldK (K := K) (pv 0) rfl) pa_nil)))), ?_⟩
    walk_at "rds"
    refine ⟨x, C, dx, _, _, rfl, h1, T.cl, T.nS, mFlds_s q b, ?_⟩
    walk_at "rd"
    exact ⟨q, us, rfl, .inr (SqT.of h2), k⟩
end
open PySem PySem.Spec L2
section
variable {P : Program} {w : World} {K : PySem.W.Frag} {mg : Str → Option Value} {base : Heap}
theorem ok_REinit {f : Addr} {fd : FuncData} (F : Fun K "__init__" "RingError.__init__" s_RingError__init f fd) (gVE : mg "ValueError" = none) (vV : PySem.W.findCls K (.type "ValueError") (.type "type") "__init__" = some (.val (.builtin "ValueError.__init__"))) : FnOk P w K mg base CX0 1 f fd ["self", "what"] (spRE K) := by
  refine F.ok sc_RingError__init (fun vs H Q E h => ?_) (fun cdv A outer s H vs Q E hr h => ?_)
  · obtain ⟨a, C, v, rfl, _⟩ := h
    rfl
  · obtain ⟨a, C, v, rfl, hi, T, hw, ha, k⟩ := h
    refine ⟨_, (pss_cons (ps_expr (pe_veinit rfl gVE vV (pa_cons (pv 0) (pa_cons (pe_joined (.cons pe_str (.cons (pe_fmtX (pv 1)) .nil))) pa_nil))))
 (pss_one (ps_ost (pv 0) (pv 1)))), ?_⟩
    walk_at "rds"
    refine ⟨_, rfl, _, rfl, by decide +kernel, _, rfl, hi, fun y hy => ⟨_, rfl, ?_, a, C, _, rfl, by show 1 ≤ 1000; decide, T, ha, ?_⟩⟩
    · rw [Str.length_append]
      have h9 : ((Str.empty ++ "refused: " : Str)).length = 9 := by decide +kernel
      rw [h9, sizeLine_eq]
      exact Nat.le_trans (Nat.add_le_add_left hy 9) (by decide)
    · refine ⟨_, rfl, _, rfl, a, C, rfl, T, hw, .inl ⟨ha, fun dx hd ne => ?_⟩⟩
      exact k dx hd ne
theorem ok_TooMany_init {f f0 : Addr} {fd fd0 : FuncData} (U : UbC K mg "RingError" "__init__" f0) (F0 : FnOk P w K mg base CX0 1 f0 fd0 ["self", "what"] (spRE K)) (b0 : Binds K fd0 ["self", "what"] []) (F : Fun K "__init__" "TooMany.__init__" s_TooMany__init f fd) : FnOk P w K mg base CX0 2 f fd ["self", "what"] (spRE K) := by
  refine F.ok sc_TooMany__init (fun vs H Q E h => ?_) (fun cdv A outer s H vs Q E hr h => ?_)
  · obtain ⟨a, C, v, rfl, _⟩ := h
    rfl
  · obtain ⟨a, C, v, rfl, hv, T, hw, ha, k⟩ := h
    refine ⟨_, (pss_one (ps_expr (pe_ubm U rfl F0 b0 (hr.mono (by omega)) (pa_cons (pv 0) (pa_cons (pv 1) pa_nil))))), ?_⟩
    walk_at "rds"
    exact ⟨a, C, v, rfl, hv, T, hw, ha, k⟩
end
open PySem PySem.Spec L2
section
variable {P : Program} {w : World} {K : PySem.W.Frag} {mg : Str → Option Value} {base : Heap}
theorem ok_may_read {f : Addr} {fd : FuncData} (B : BT mg) (F : Fun K "may_read" "may_read" s_may_read f fd) (hm : mg "may_read" = some (.ref f)) : Cal P w K mg base "may_read" 1 ["segment", "ring"] (spMay mRead) := by
  refine ⟨f, fd, hm, F.kp, F.binds (ps := ["segment", "ring"]) fun _ _ _ _ _ _ us hl => match us, hl with | [_, _], _ => rfl, ?_⟩
  refine F.ok sc_may_read (fun vs H Q E h => ?_) (fun cdv A outer s H vs Q E hr h => ?_)
  · obtain ⟨v, x, e, rfl, _⟩ := h
    rfl
  · obtain ⟨v, ⟨r1, r2, r3, ri, ga, ws, rs⟩, e, rfl, hv, k⟩ := h
    refine ⟨_, (pss_cons (ps_asg (pe_slice (r := rSlT K) sl_tup (pv 0) po_none (po_some pe_int)) (pg_tup (by rfl) (pgs_cons (pg_name (i := 2) sc_may_read.nd rfl (Or.inl rfl)) (pgs_cons (pg_name (i := 3) sc_may_read.nd rfl (Or.inl rfl)) pgs_nil))))
 (pss_one (ps_ret (pe_and (pe_cmpR op_in_sign pe_str (pv 3) rfl) (pe_one (pe_cmpR op_le (pv 1) (pe_ix (r := rIxT K) ix_tup (pv 2) pe_int (fun _ _ => rfl)) (nomark _))))))), ?_⟩
    obtain ⟨p, xs, rfl, hp, ha⟩ := hv.tup_inv
    obtain ⟨x0, xr, rfl, h0, ha⟩ := ha.cons_inv
    obtain ⟨x1, xr, rfl, h1, ha⟩ := ha.cons_inv
    obtain ⟨x2, xr, rfl, h2, ha⟩ := ha.cons_inv
    have e1 := h1.str_inv; subst e1
    obtain ⟨pb, vb, rfl, hpb, hab⟩ := h0.tup_inv
    have eb := RpAll.ints_inv (ns := [r1, r2, r3]) hab
    subst eb
    replace hpb : H pb = some (.tup [.int r1, .int r2, .int r3]) := hpb
    walk_at "rds"
    refine ⟨2, rfl, ?_⟩
    refine rd_cut2 hp fun q hq => ?_
    have hpb2 := (same_upd (o := .tup [.ref pb, .str ri]) hq) _ _ hpb
    have k2 := k _ (same_upd (o := .tup [.ref pb, .str ri]) hq)
    unfold mRead has at k2
    dsimp only at k2
    walk_at "rd"
    refine ⟨114, ri, rfl, rfl, ?_⟩
    walk_at "rd"
    refine rd_ifd (fun hr => ?_) (fun hr => ?_)
    · rw [decide_eq_true hr] at k2
      walk_at "rd"
      exact k2
    · rw [decide_eq_false hr] at k2
      exact k2
theorem ok_may_write {f : Addr} {fd : FuncData} (B : BT mg) (F : Fun K "may_write" "may_write" s_may_write f fd) (hm : mg "may_write" = some (.ref f)) : Cal P w K mg base "may_write" 1 ["segment", "ring"] (spMay mWrite) := by
  refine ⟨f, fd, hm, F.kp, F.binds (ps := ["segment", "ring"]) fun _ _ _ _ _ _ us hl => match us, hl with | [_, _], _ => rfl, ?_⟩
  refine F.ok sc_may_write (fun vs H Q E h => ?_) (fun cdv A outer s H vs Q E hr h => ?_)
  · obtain ⟨v, x, e, rfl, _⟩ := h
    rfl
  · obtain ⟨v, ⟨r1, r2, r3, ri, ga, ws, rs⟩, e, rfl, hv, k⟩ := h
    refine ⟨_, (pss_cons (ps_asg (pe_slice (r := rSlT K) sl_tup (pv 0) po_none (po_some pe_int)) (pg_tup (by rfl) (pgs_cons (pg_name (i := 2) sc_may_write.nd rfl (Or.inl rfl)) (pgs_cons (pg_name (i := 3) sc_may_write.nd rfl (Or.inl rfl)) pgs_nil))))
 (pss_one (ps_ret (pe_and (pe_cmpR op_in_sign pe_str (pv 3) rfl) (pe_one (pe_cmpR op_le (pv 1) (pe_ix (r := rIxT K) ix_tup (pv 2) pe_int (fun _ _ => rfl)) (nomark _))))))), ?_⟩
    obtain ⟨p, xs, rfl, hp, ha⟩ := hv.tup_inv
    obtain ⟨x0, xr, rfl, h0, ha⟩ := ha.cons_inv
    obtain ⟨x1, xr, rfl, h1, ha⟩ := ha.cons_inv
    obtain ⟨x2, xr, rfl, h2, ha⟩ := ha.cons_inv
    have e1 := h1.str_inv; subst e1
    obtain ⟨pb, vb, rfl, hpb, hab⟩ := h0.tup_inv
    have eb := RpAll.ints_inv (ns := [r1, r2, r3]) hab
    subst eb
    replace hpb : H pb = some (.tup [.int r1, .int r2, .int r3]) := hpb
    walk_at "rds"
    refine ⟨2, rfl, ?_⟩
    refine rd_cut2 hp fun q hq => ?_
    have hpb2 := (same_upd (o := .tup [.ref pb, .str ri]) hq) _ _ hpb
    have k2 := k _ (same_upd (o := .tup [.ref pb, .str ri]) hq)
    unfold mWrite has at k2
    dsimp only at k2
    walk_at "rd"
    refine ⟨119, ri, rfl, rfl, ?_⟩
    walk_at "rd"
    refine rd_ifd (fun hr => ?_) (fun hr => ?_)
    · rw [decide_eq_true hr] at k2
      walk_at "rd"
      exact k2
    · rw [decide_eq_false hr] at k2
      exact k2
end
open PySem PySem.Spec L2
section
variable {P : Program} {w : World} {K : PySem.W.Frag} {mg : Str → Option Value} {base : Heap}
theorem ok_Finit {f : Addr} {fd : FuncData} (F : Fun K "__init__" "Fault.__init__" s_Fault__init f fd) (gE : mg "Exception" = none) (vE : PySem.W.findCls K (.type "Exception") (.type "type") "__init__" = some (.val (.builtin "Exception.__init__"))) : FnOk P w K mg base CX0 1 f fd ["self", "cause"] (spFE K) := by
  refine F.ok sc_Fault__init (fun vs H Q E h => ?_) (fun cdv A outer s H vs Q E hr h => ?_)
  · obtain ⟨a, C, v, rfl, _⟩ := h
    rfl
  · obtain ⟨a, C, v, rfl, T, hw, ha, k⟩ := h
    refine ⟨_, (pss_cons (ps_expr (pe_eninit rfl gE vE (pa_cons (pv 0) (pa_cons (pv 1) pa_nil))))
 (pss_one (ps_est (pv 0) (pv 1)))), ?_⟩
    walk_at "rds"
    refine ⟨_, rfl, _, rfl, a, C, [v], rfl, by show 1 ≤ 1000; decide, T, ha, ?_⟩
    walk_at "rd"
    exact ⟨_, rfl, _, rfl, a, C, rfl, T, hw, ha, fun dx hd ne => k dx hd ne⟩
theorem ok_pointer {f CR CF : Addr} {fd : FuncData} (T : RCl K mg CR) (Fc : FltC P w K mg base CF) (M : Meth K CR "pointer" f) (F : Fun K "pointer" "Run.pointer" s_Run_pointer f fd) : MthX P w K mg base CR "pointer" 3 ["self", "p"] (spPointer CR CF) := by
  refine ⟨f, fd, M, F.binds (ps := ["self", "p"]) fun _ _ _ _ _ _ us hl => match us, hl with | [_, _], _ => rfl, ?_⟩
  refine Fun.okN F sc_Run_pointer (fun vs H Q E h => ?_) (fun cdv A outer s H vs Q E hr h => ?_)
  · obtain ⟨H0, x, m, hand, p, s, rfl, _⟩ := h
    rfl
  · obtain ⟨H0, x, m, hand, p, s, rfl, R, h4, p0, p4, k1, k2⟩ := h
    refine ⟨_, (pss_cons (ps_if (pt_cmpR op_isN (pe_ix (r := rIxL K) ix_list (pe_fldK (K := K) (pv 0) rfl) (pv 1) (fun _ _ => rfl)) pe_non (nomark _)) (pss_one (ps_fault Fc rfl (L2N.takes_of rfl rfl rfl rfl) (hr.mono (by omega)) rfl pe_str)) pss_nil)
 (pss_one (ps_ret (pe_ix (r := rIxL K) ix_list (pe_fldK (K := K) (pv 0) rfl) (pv 1) (fun _ _ => rfl))))), ?_⟩
    obtain ⟨dx, lp, lm, lc, ls, lt, as, vw, r, n⟩ := R.ex
    obtain ⟨vp, hp, rp⟩ := r.hp
    obtain ⟨u, hu, ru⟩ := pt_get rp h4 p0 p4
    walk_at "rds"
    refine ⟨x, CR, dx, _, _, rfl, r.hx, T.cl, T.n_pointers, rF_pointers, ?_⟩
    walk_at "rd"
    refine rd_ixL hp hu ?_
    walk_at "rd"
    refine ⟨rfl, ?_⟩
    walk_at "rd"
    cases e : s.ptr p with
    | none =>
      rw [e] at ru
      cases ru
      refine rd_ifT rfl ?_
      walk_at "rd"
      exact (k2 e).here
    | some z =>
      obtain ⟨r1, g, pl⟩ := z
      rw [e] at ru
      obtain ⟨q, rfl, hq⟩ := ptD_some ru
      refine rd_ifF (fun z => nomatch z) ?_
      walk_at "rd"
      refine ⟨x, CR, dx, _, _, rfl, r.hx, T.cl, T.n_pointers, rF_pointers, ?_⟩
      walk_at "rd"
      refine rd_ixL hp hu ?_
      exact k1 r1 g pl e q hq
theorem mem_get {CR : Addr} {H : Hp} {x dx m : Addr} {hand : Int} {lp lm lc ls lt : Addr} {as : List Addr} {vw : V} {s : Rn} (r : RA CR H x dx m hand lp lm lc ls lt as vw s) {g : Int} (g0 : 0 ≤ g) (gN : g < (s.me.length : Int)) : ∃ q v, as[g.toNat]? = some q ∧ atI (as.map V.ref) g = some (.ref q) ∧ H q = some (.lst v) ∧ RpAll H v ((s.mem g).map Wd.d) := by
  have hg : g.toNat < as.length := by rw [r.la]; omega
  have e1 : as[g.toNat]? = some as[g.toNat] := List.getElem?_eq_getElem hg
  have e2 : s.me[g.toNat]? = some (s.mem g) := by
    unfold Rn.mem
    rw [List.getD_eq_getElem?_getD, List.getElem?_eq_getElem (by omega)]
    rfl
  obtain ⟨v, h1, h2⟩ := r.ha _ _ _ e1 e2
  exact ⟨as[g.toNat], v, e1, at_of (j := g.toNat) (by omega) (by rw [List.getElem?_map, e1]; rfl), h1, h2⟩
theorem ptr_mem {s : Rn} {p : Int} {z : Int × Int × Int} (h4 : s.pt.length = 4) (p0 : 0 ≤ p) (p4 : p < 4) (e : s.ptr p = some z) : some z ∈ s.pt := by
  have hl : p.toNat < s.pt.length := by omega
  unfold Rn.ptr at e
  rw [List.getD_eq_getElem?_getD, List.getElem?_eq_getElem hl] at e
  have e' : s.pt[p.toNat] = some z := e
  rw [← e']
  exact List.getElem_mem hl
theorem ok_spot {f CR CF : Addr} {fd : FuncData} (B : BT mg) (T : RCl K mg CR) (Fc : FltC P w K mg base CF) (M : Meth K CR "spot" f) (F : Fun K "spot" "Run.spot" s_Run_spot f fd) (M_pointer : MthX P w K mg base CR "pointer" 3 ["self", "p"] (spPointer CR CF)) : MthX P w K mg base CR "spot" 4 ["self", "p", "w"] (spSpot CR CF) := by
  refine ⟨f, fd, M, F.binds (ps := ["self", "p", "w"]) fun _ _ _ _ _ _ us hl => match us, hl with | [_, _, _], _ => rfl, ?_⟩
  refine Fun.okN F sc_Run_spot (fun vs H Q E h => ?_) (fun cdv A outer s H vs Q E hr h => ?_)
  · obtain ⟨H0, x, m, hand, p, w, s, xs, rfl, _⟩ := h
    rfl
  · obtain ⟨H0, x, m, hand, p, w, s, xs, rfl, R, wf, p0, p4, k1, k2⟩ := h
    refine ⟨_, (pss_cons (ps_asg (pe_mthE (E := E) M_pointer T.cl (hr.mono (by omega)) (L2N.takes_of rfl rfl rfl rfl) (pv 0) (pa_cons (pv 1) pa_nil)) (pg_tup (by rfl) (pgs_cons (pg_name (i := 3) sc_Run_spot.nd rfl (Or.inl rfl)) (pgs_cons (pg_name (i := 4) sc_Run_spot.nd rfl (Or.inl rfl)) (pgs_cons (pg_name (i := 5) sc_Run_spot.nd rfl (Or.inl rfl)) pgs_nil)))))
 (pss_cons (ps_if (pt_not (pt_chain op_le op_lt pe_int (pe_op op_add (pv 5) (pv 2)) (pe_callB (cr_lenS (K := K)) rfl B.g_len PySem.boot_len (pa_cons (pe_ix (r := rIxL K) ix_list (pe_fldK (K := K) (pv 0) rfl) (pv 4) (fun _ _ => rfl)) pa_nil)))) (pss_one (ps_fault Fc rfl (L2N.takes_of rfl rfl rfl rfl) (hr.mono (by omega)) rfl pe_str)) pss_nil)
 (pss_one (ps_ret (pe_tup (pa_cons (pe_callB (call_max2 rfl) rfl B.g_max (by decide +kernel) (pa_cons (pe_fldK (K := K) (pv 0) rfl) (pa_cons (pv 3) pa_nil))) (pa_cons (pv 4) (pa_cons (pe_op op_add (pv 5) (pv 2)) pa_nil)))))))), ?_⟩
    obtain ⟨dx, lp, lm, lc, ls, lt, as, vw, r, n⟩ := R.ex
    walk_at "rds"
    refine ⟨x, dx, _, rfl, r.hx, rF_no_pointer, ?_⟩
    walk_at "rd"
    refine ⟨H0, x, m, hand, p, s, rfl, R, wf.pt4, p0, p4, fun r1 g pl e q hq => ?_, fun e => ?_⟩
    case refine_2 => exact k2 _ (by unfold spotR; rw [e])
    obtain ⟨g0, gN, _⟩ := wf.ptg r1 g pl (ptr_mem wf.pt4 p0 p4 e)
    obtain ⟨qm, vm, a1, a2, hqm, ram⟩ := mem_get r g0 (by rw [wf.me]; exact gN)
    have lvm : vm.length = (s.mem g).length := by rw [ram.length, List.length_map]
    have es : spotR s p w = if 0 ≤ pl + w ∧ pl + w < ((s.mem g).length : Int) then .ok (mx s.ring r1, g, pl + w) else .error "bounds" := by unfold spotR; rw [e]
    walk_at "rd"
    refine rd_ifd (fun h0 => ?_) (fun h0 => ?_)
    case refine_2 =>
      walk_at "rd"
      exact (k2 "bounds" (by rw [es, if_neg (fun z => h0 z.1)])).here
    walk_at "rd"
    refine ⟨x, CR, dx, _, _, rfl, r.hx, T.cl, T.n_memory, rF_memory, ?_⟩
    walk_at "rd"
    refine rd_ixL r.hm a2 ?_
    walk_at "rd"
    refine ⟨qm, vm, rfl, .inl (SqL.of hqm), ?_⟩
    rw [lvm]
    walk_at "rd"
    refine rd_ifn (fun h1 => ?_) (fun h1 => ?_)
    case refine_2 =>
      walk_at "rd"
      exact (k2 "bounds" (by rw [es, if_neg (fun z => of_decide_eq_false h1 z.2)])).here
    walk_at "rd"
    refine ⟨x, CR, dx, _, _, rfl, r.hx, T.cl, T.n_ring, rF_ring, ?_⟩
    walk_at "rd"
    refine ⟨_, _, rfl, ?_⟩
    walk_at "rd"
    intro q1 hq1
    exact k1 (mx s.ring r1) g (pl + w) (by rw [es, if_pos ⟨h0, of_decide_eq_true h1⟩]) q1 _ upd_same (same_upd hq1)
theorem seg_get {C : Addr} {H0 : Hp} {m : Addr} {us : List V} {xs : List Sg} {b : Int} (M : Mch C H0 m us xs b) {g : Int} (g0 : 0 ≤ g) (gN : g < (xs.length : Int)) : ∃ v, us[g.toNat]? = some v ∧ Rp H0 v (sgAt xs g).d ∧ g < (us.length : Int) := by
  have lu : us.length = xs.length := by rw [M.rp.length, List.length_map]
  have hg : g.toNat < xs.length := by omega
  obtain ⟨v, h1, h2⟩ := M.rp.get2 (i := g.toNat) (d := (sgAt xs g).d) (by
    unfold sgAt
    rw [List.getElem?_map, List.getD_eq_getElem?_getD, List.getElem?_eq_getElem hg]
    rfl)
  exact ⟨v, h1, h2, by omega⟩
theorem spot_in {s : Rn} {p w e g pl : Int} {xs : List Sg} (wf : WF xs s) (p0 : 0 ≤ p) (p4 : p < 4) (h : spotR s p w = .ok (e, g, pl)) : 0 ≤ g ∧ g < (xs.length : Int) ∧ 0 ≤ pl ∧ pl < ((s.mem g).length : Int) := by
  unfold spotR at h
  cases e1 : s.ptr p with
  | none => rw [e1] at h; cases h
  | some z =>
    obtain ⟨r1, g1, pl1⟩ := z
    rw [e1] at h
    dsimp only at h
    obtain ⟨g0, gN, _⟩ := wf.ptg r1 g1 pl1 (ptr_mem wf.pt4 p0 p4 e1)
    by_cases hc : 0 ≤ pl1 + w ∧ pl1 + w < ((s.mem g1).length : Int)
    · rw [if_pos hc] at h
      cases h
      exact ⟨g0, gN, hc.1, hc.2⟩
    · rw [if_neg hc] at h
      cases h
theorem word_get {H : Hp} {v : List V} {s : Rn} {g pl : Int} (ram : RpAll H v ((s.mem g).map Wd.d)) (h0 : 0 ≤ pl) (h1 : pl < ((s.mem g).length : Int)) : ∃ u, atI v pl = some u ∧ Rp H u (s.wordAt g pl).d := by
  obtain ⟨u, hu, ru⟩ := ram.get2 (i := pl.toNat) (d := (s.wordAt g pl).d) (by
    unfold Rn.wordAt
    rw [List.getElem?_map, List.getD_eq_getElem?_getD, List.getElem?_eq_getElem (by omega)]
    rfl)
  exact ⟨u, at_of (by omega) hu, ru⟩
theorem ok_read {f C CR CF : Addr} {fd : FuncData} (B : BT mg) (TM : MC K mg C) (T : RCl K mg CR) (Fc : FltC P w K mg base CF) (M : Meth K CR "read" f) (F : Fun K "read" "Run.read" s_Run_read f fd) (M_spot : MthX P w K mg base CR "spot" 4 ["self", "p", "w"] (spSpot CR CF)) (M_seg : Mth P w K mg base C "segment" 3 ["self", "number"] (spSegAt C)) (C_may_read : Cal P w K mg base "may_read" 1 ["segment", "ring"] (spMay mRead)) :
    MthX P w K mg base CR "read" 5 ["self", "p", "w"] (spRead C CR CF) := by
  refine ⟨f, fd, M, F.binds (ps := ["self", "p", "w"]) fun _ _ _ _ _ _ us hl => match us, hl with | [_, _, _], _ => rfl, ?_⟩
  refine Fun.okN F sc_Run_read (fun vs H Q E h => ?_) (fun cdv A outer s H vs Q E hr h => ?_)
  · obtain ⟨H0, x, m, us, xs, b, hand, p, w, s, rfl, _⟩ := h
    rfl
  · obtain ⟨H0, x, m, us, xs, b, hand, p, w, s, rfl, Mc, R, wf, p0, p4, k1, k2⟩ := h
    refine ⟨_, (pss_cons (ps_asg (pe_mthE (E := E) M_spot T.cl (hr.mono (by omega)) (L2N.takes_of rfl rfl rfl rfl) (pv 0) (pa_cons (pv 1) (pa_cons (pv 2) pa_nil))) (pg_tup (by rfl) (pgs_cons (pg_name (i := 3) sc_Run_read.nd rfl (Or.inl rfl)) (pgs_cons (pg_name (i := 4) sc_Run_read.nd rfl (Or.inl rfl)) (pgs_cons (pg_name (i := 5) sc_Run_read.nd rfl (Or.inl rfl)) pgs_nil)))))
 (pss_cons (ps_if (pt_not (pt_val (pe_cal C_may_read (hr.mono (by omega)) rfl (pa_cons (pe_mth M_seg TM.cl (hr.mono (by omega)) (pe_fldK (K := K) (pv 0) rfl) (pa_cons (pv 4) pa_nil)) (pa_cons (pv 3) pa_nil))))) (pss_one (ps_fault Fc rfl (L2N.takes_of rfl rfl rfl rfl) (hr.mono (by omega)) rfl pe_str)) pss_nil)
 (pss_cons (ps_expr (pe_bm PySem.F.plainAttrs_list PySem.F.slot_list_append PySem.F.type_list_append mt_append (pe_fldK (K := K) (pv 0) rfl) (pa_cons (pe_tup (pa_cons (pv 3) (pa_cons (pv 4) (pa_cons (pv 5) (pa_cons pe_str pa_nil))))) pa_nil)))
 (pss_one (ps_ret (pe_tup (pa_cons (pe_ix (r := rIxL K) ix_list (pe_ix (r := rIxL K) ix_list (pe_fldK (K := K) (pv 0) rfl) (pv 4) (fun _ _ => rfl)) (pv 5) (fun _ _ => rfl)) (pa_cons (pv 3) (pa_cons (pv 4) pa_nil))))))))), ?_⟩
    obtain ⟨dx, lp, lm, lc, ls, lt, as, vw, r, n⟩ := R.ex
    walk_at "rds"
    refine ⟨x, dx, _, rfl, r.hx, rF_no_spot, ?_⟩
    walk_at "rd"
    refine ⟨H0, x, m, hand, p, w, s, xs, rfl, R, wf, p0, p4, fun e g pl hs q H1 hq s1 => ?_, fun c hc => k2 c (by unfold readR; rw [hc])⟩
    obtain ⟨g0, gN, l0, l1⟩ := spot_in wf p0 p4 hs
    obtain ⟨sv, hsv, rsv, gu⟩ := seg_get Mc g0 gN
    have R1 := R.same s1
    have r1 := r.same s1
    have er : readR xs s p w = if mRead (sgAt xs g) e = true then .ok (s.wordAt g pl, e, g, s.touch e g pl "r") else .error "read" := by unfold readR; rw [hs]
    walk_at "rd"
    refine ⟨x, CR, dx, _, _, rfl, r1.hx, T.cl, T.n_machine, rF_machine, ?_⟩
    obtain ⟨mdx, mq, mh1, mh2⟩ := id (Mc.at_.same R1.sm)
    refine ⟨m, mdx, _, rfl, mh1, mFlds_no mq b (by decide +kernel) (by decide +kernel), ?_⟩
    walk_at "rd"
    refine ⟨m, us, b, g, sv, rfl, Mc.at_.same R1.sm, g0, gu, hsv, ?_⟩
    walk_at "rd"
    refine ⟨sv, _, e, rfl, rsv.keep (Tk.of R1.sm), fun H2 s2 => ?_⟩
    walk_at "rd"
    refine rd_ifn (fun hr1 => ?_) (fun hr1 => ?_)
    case refine_2 =>
      walk_at "rd"
      have f1 := k2 "read" (by rw [er, if_neg (by rw [hr1]; exact fun z => nomatch z)])
      exact fun d hd => f1 d _ ((s1.trans s2).free hd) upd_same ((s1.trans s2).trans (same_upd hd))
    have R2 := R1.same s2
    have r2 := r1.same s2
    obtain ⟨vt, hvt, rvt⟩ := r2.ht
    walk_at "rd"
    refine ⟨x, CR, dx, _, _, rfl, r2.hx, T.cl, T.n_touches, rF_touches, ?_⟩
    walk_at "rd"
    intro q3 hq3
    have s3 := same_upd (o := .tup [.int e, .int g, .int pl, .str "r"]) hq3
    have r3 := r2.same s3
    have hvt3 := s3 _ _ hvt
    walk_at "rd"
    refine rd_append hvt3 (by rw [rvt.length, List.length_map]; exact Nat.lt_of_le_of_lt wf.t9 (by decide)) ?_
    have rT : RpAll (upd H2 q3 (.tup [.int e, .int g, .int pl, .str "r"])) (vt ++ [.ref q3]) ((s.to ++ [(e, g, pl, ("r" : Str))]).map toD) := by
      rw [List.map_append]
      exact (rvt.keep (Tk.of s3)).append (.cons (.tup upd_same (.cons (.int _) (.cons (.int _) (.cons (.int _) (.cons (.str _) .nil))))) .nil)
    have r4 := r3.setT rT
    have nlt : H0 lt = none := n lt (by simp)
    have sm4 : Same H0 (upd (upd H2 q3 (.tup [.int e, .int g, .int pl, .str "r"])) lt (.lst (vt ++ [.ref q3]))) := same_put (R2.sm.trans s3) nlt
    have tk4 : Tk H (upd (upd H2 q3 (.tup [.int e, .int g, .int pl, .str "r"])) lt (.lst (vt ++ [.ref q3]))) := (Tk.of ((s1.trans s2).trans s3)).trans (Tk.lst hvt3)
    generalize upd (upd H2 q3 (.tup [.int e, .int g, .int pl, .str "r"])) lt (.lst (vt ++ [.ref q3])) = H4 at r4 sm4 tk4
    obtain ⟨qm, vm, a1, a2, hqm, ram⟩ := mem_get r4 g0 (by show g < (s.me.length : Int); rw [wf.me]; exact gN)
    obtain ⟨u, hu, ru⟩ := word_get (s := s) ram l0 l1
    walk_at "rd"
    refine ⟨x, CR, dx, _, _, rfl, r4.hx, T.cl, T.n_memory, rF_memory, ?_⟩
    walk_at "rd"
    refine rd_ixL r4.hm a2 ?_
    walk_at "rd"
    refine rd_ixL hqm hu ?_
    walk_at "rd"
    intro q5 hq5
    have s5 := same_upd (o := .tup [u, .int e, .int g]) hq5
    exact k1 _ e g _ (by rw [er, if_pos hr1]; rfl) u q5 _ upd_same (ru.keep (Tk.of s5)) ⟨⟨dx, lp, lm, lc, ls, lt, as, vw, r4.same s5, n⟩, R.nx, sm4.trans s5⟩ (tk4.trans (Tk.of s5))
theorem ok_write {f C CR CF : Addr} {fd : FuncData} (B : BT mg) (TM : MC K mg C) (T : RCl K mg CR) (Fc : FltC P w K mg base CF) (M : Meth K CR "write" f) (F : Fun K "write" "Run.write" s_Run_write f fd) (M_spot : MthX P w K mg base CR "spot" 4 ["self", "p", "w"] (spSpot CR CF)) (M_seg : Mth P w K mg base C "segment" 3 ["self", "number"] (spSegAt C)) (C_may_write : Cal P w K mg base "may_write" 1 ["segment", "ring"] (spMay mWrite)) :
    MthX P w K mg base CR "write" 5 ["self", "p", "w", "word"] (spWrite C CR CF) := by
  refine ⟨f, fd, M, F.binds (ps := ["self", "p", "w", "word"]) fun _ _ _ _ _ _ us hl => match us, hl with | [_, _, _, _], _ => rfl, ?_⟩
  refine Fun.okN F sc_Run_write (fun vs H Q E h => ?_) (fun cdv A outer s H vs Q E hr h => ?_)
  · obtain ⟨H0, x, m, us, xs, b, hand, p, w, v, wd, s, rfl, _⟩ := h
    rfl
  · obtain ⟨H0, x, m, us, xs, b, hand, p, w, v, wd, s, rfl, Mc, R, wf, p0, p4, rv, k⟩ := h
    refine ⟨_, (pss_cons (ps_asg (pe_mthE (E := E) M_spot T.cl (hr.mono (by omega)) (L2N.takes_of rfl rfl rfl rfl) (pv 0) (pa_cons (pv 1) (pa_cons (pv 2) pa_nil))) (pg_tup (by rfl) (pgs_cons (pg_name (i := 4) sc_Run_write.nd rfl (Or.inl rfl)) (pgs_cons (pg_name (i := 5) sc_Run_write.nd rfl (Or.inl rfl)) (pgs_cons (pg_name (i := 6) sc_Run_write.nd rfl (Or.inl rfl)) pgs_nil)))))
 (pss_cons (ps_if (pt_not (pt_val (pe_cal C_may_write (hr.mono (by omega)) rfl (pa_cons (pe_mth M_seg TM.cl (hr.mono (by omega)) (pe_fldK (K := K) (pv 0) rfl) (pa_cons (pv 5) pa_nil)) (pa_cons (pv 4) pa_nil))))) (pss_one (ps_fault Fc rfl (L2N.takes_of rfl rfl rfl rfl) (hr.mono (by omega)) rfl pe_str)) pss_nil)
 (pss_cons (ps_expr (pe_bm PySem.F.plainAttrs_list PySem.F.slot_list_append PySem.F.type_list_append mt_append (pe_fldK (K := K) (pv 0) rfl) (pa_cons (pe_tup (pa_cons (pv 4) (pa_cons (pv 5) (pa_cons (pv 6) (pa_cons pe_str pa_nil))))) pa_nil)))
 (pss_one (ps_asg (pv 3) (pg_sub (pe_ix (r := rIxL K) ix_list (pe_fldK (K := K) (pv 0) rfl) (pv 5) (fun _ _ => rfl)) (pv 6) set_list)))))), ?_⟩
    obtain ⟨dx, lp, lm, lc, ls, lt, as, vw, r, n⟩ := R.ex
    walk_at "rds"
    refine ⟨x, dx, _, rfl, r.hx, rF_no_spot, ?_⟩
    walk_at "rd"
    refine ⟨H0, x, m, hand, p, w, s, xs, rfl, R, wf, p0, p4, fun e g pl hs q H1 hq s1 => ?_, fun c hc => ?_⟩
    case refine_2 =>
      have ew : writeR xs s p w wd = (s, some c) := by unfold writeR; rw [hc]
      rw [ew] at k
      exact k.flt R (Tk.refl _)
    obtain ⟨g0, gN, l0, l1⟩ := spot_in wf p0 p4 hs
    obtain ⟨sv, hsv, rsv, gu⟩ := seg_get Mc g0 gN
    have R1 := R.same s1
    have r1 := r.same s1
    have ew : writeR xs s p w wd = (if mWrite (sgAt xs g) e = true then ((s.touch e g pl "w").put g pl wd, (none : Option Str)) else (s, some ("write" : Str))) := by unfold writeR; rw [hs]
    walk_at "rd"
    refine ⟨x, CR, dx, _, _, rfl, r1.hx, T.cl, T.n_machine, rF_machine, ?_⟩
    obtain ⟨mdx, mq, mh1, mh2⟩ := id (Mc.at_.same R1.sm)
    refine ⟨m, mdx, _, rfl, mh1, mFlds_no mq b (by decide +kernel) (by decide +kernel), ?_⟩
    walk_at "rd"
    refine ⟨m, us, b, g, sv, rfl, Mc.at_.same R1.sm, g0, gu, hsv, ?_⟩
    walk_at "rd"
    refine ⟨sv, _, e, rfl, rsv.keep (Tk.of R1.sm), fun H2 s2 => ?_⟩
    walk_at "rd"
    refine rd_ifn (fun hr1 => ?_) (fun hr1 => ?_)
    case refine_2 =>
      walk_at "rd"
      rw [ew, if_neg (by rw [hr1]; exact fun z => nomatch z)] at k
      exact (k.flt (R1.same s2) (Tk.of (s1.trans s2))).here
    rw [ew, if_pos hr1] at k
    have R2 := R1.same s2
    have r2 := r1.same s2
    obtain ⟨vt, hvt, rvt⟩ := r2.ht
    walk_at "rd"
    refine ⟨x, CR, dx, _, _, rfl, r2.hx, T.cl, T.n_touches, rF_touches, ?_⟩
    walk_at "rd"
    intro q3 hq3
    have s3 := same_upd (o := .tup [.int e, .int g, .int pl, .str "w"]) hq3
    have r3 := r2.same s3
    have hvt3 := s3 _ _ hvt
    walk_at "rd"
    refine rd_append hvt3 (by rw [rvt.length, List.length_map]; exact Nat.lt_of_le_of_lt wf.t9 (by decide)) ?_
    have rT : RpAll (upd H2 q3 (.tup [.int e, .int g, .int pl, .str "w"])) (vt ++ [.ref q3]) ((s.to ++ [(e, g, pl, ("w" : Str))]).map toD) := by
      rw [List.map_append]
      exact (rvt.keep (Tk.of s3)).append (.cons (.tup upd_same (.cons (.int _) (.cons (.int _) (.cons (.int _) (.cons (.str _) .nil))))) .nil)
    have r4 := r3.setT rT
    have nlt : H0 lt = none := n lt (by simp)
    have sm4 : Same H0 (upd (upd H2 q3 (.tup [.int e, .int g, .int pl, .str "w"])) lt (.lst (vt ++ [.ref q3]))) := same_put (R2.sm.trans s3) nlt
    have tk4 : Tk H (upd (upd H2 q3 (.tup [.int e, .int g, .int pl, .str "w"])) lt (.lst (vt ++ [.ref q3]))) := (Tk.of ((s1.trans s2).trans s3)).trans (Tk.lst hvt3)
    generalize upd (upd H2 q3 (.tup [.int e, .int g, .int pl, .str "w"])) lt (.lst (vt ++ [.ref q3])) = H4 at r4 sm4 tk4
    obtain ⟨qm, vm, a1, a2, hqm, ram⟩ := mem_get r4 g0 (by show g < (s.me.length : Int); rw [wf.me]; exact gN)
    have lvm : vm.length = (s.mem g).length := by rw [ram.length, List.length_map]; rfl
    walk_at "rd"
    refine ⟨x, CR, dx, _, _, rfl, r4.hx, T.cl, T.n_memory, rF_memory, ?_⟩
    walk_at "rd"
    refine rd_ixL r4.hm a2 ?_
    walk_at "rd"
    refine rd_setL hqm (ixN_nat (i := pl.toNat) (by omega) (by omega)) ?_
    have rM : RpAll H4 (vm.set pl.toNat v) (((s.mem g).set pl.toNat wd).map Wd.d) := by
      rw [List.map_set]
      exact RpAll.set (rv.keep tk4) pl.toNat ram
    have r5 := r4.setM a1 rM
    have nq : H0 qm = none := n qm (by simp [List.mem_of_getElem? a1])
    exact k _ ⟨⟨dx, lp, lm, lc, ls, lt, as, vw, r5, n⟩, R.nx, same_put sm4 nq⟩ (tk4.trans (Tk.lst hqm))
end
open PySem PySem.Spec L2
section
variable {P : Program} {w : World} {K : PySem.W.Frag} {mg : Str → Option Value} {base : Heap}
def spHand (CR CF : Addr) : Sp := fun vs H Q E => ∃ (H0 : Hp) (x m : Addr) (hand : Int) (s : Rn), vs = [.ref x] ∧ RunAt CR H0 H x m hand s ∧ (s.wh ≠ none → Q .non H) ∧ (s.wh = none → Flt CF E H "hand")
theorem wh_val {H : Hp} {v : V} {w : Option (Int × Int)} (h : Rp H v (whD w)) : (w = none ∧ v = .non) ∨ ∃ g p q, w = some (g, p) ∧ v = .ref q ∧ H q = some (.tup [.int g, .int p]) := by
  match w, h with
  | none, h => cases h; exact .inl ⟨rfl, rfl⟩
  | some (g, p), h =>
    obtain ⟨q, vs, rfl, hq, ha⟩ := Rp.tup_inv (show Rp H v (.tuple [.int g, .int p]) from h)
    have e := RpAll.ints_inv (ns := [g, p]) ha
    subst e
    exact .inr ⟨g, p, q, rfl, rfl, hq⟩
theorem ok_hand {f CR CF : Addr} {fd : FuncData} (T : RCl K mg CR) (Fc : FltC P w K mg base CF) (M : Meth K CR "not_the_hand" f) (F : Fun K "not_the_hand" "Run.not_the_hand" s_Run_not_the_hand f fd) : MthX P w K mg base CR "not_the_hand" 3 ["self"] (spHand CR CF) := by
  refine ⟨f, fd, M, F.binds (ps := ["self"]) fun _ _ _ _ _ _ us hl => match us, hl with | [_], _ => rfl, ?_⟩
  refine Fun.okN F sc_Run_not_the_hand (fun vs H Q E h => ?_) (fun cdv A outer s H vs Q E hr h => ?_)
  · obtain ⟨H0, x, m, hand, s, rfl, _⟩ := h
    rfl
  · obtain ⟨H0, x, m, hand, s, rfl, R, k1, k2⟩ := h
    refine ⟨_, (pss_one (ps_if (pt_cmpR op_isN (pe_fldK (K := K) (pv 0) rfl) pe_non (nomark _)) (pss_one (ps_fault Fc rfl (L2N.takes_of rfl rfl rfl rfl) (hr.mono (by omega)) rfl pe_str)) pss_nil)), ?_⟩
    obtain ⟨dx, lp, lm, lc, ls, lt, as, vw, r, n⟩ := R.ex
    walk_at "rds"
    refine ⟨x, CR, dx, _, _, rfl, r.hx, T.cl, T.n_where, rF_where, ?_⟩
    walk_at "rd"
    refine ⟨rfl, ?_⟩
    walk_at "rd"
    rcases wh_val r.hw with ⟨e, rfl⟩ | ⟨g, p, q, e, rfl, hq⟩
    · refine rd_ifT rfl ?_
      walk_at "rd"
      exact (k2 e).here
    · refine rd_ifF (fun z => nomatch z) ?_
      walk_at "rd"
      exact k1 (by rw [e]; exact fun z => nomatch z)
def spJump (CR : Addr) : Sp := fun vs H Q _ => ∃ (H0 : Hp) (x m : Addr) (hand j g p : Int) (s : Rn), vs = [.ref x, .int j] ∧ RunAt CR H0 H x m hand s ∧ s.wh = some (g, p) ∧ ∀ H', RunAt CR H0 H' x m hand { s with wh := some (g, j) } → Tk H H' → Q .non H'
theorem ok_jump {f CR : Addr} {fd : FuncData} (T : RCl K mg CR) (M : Meth K CR "jump" f) (F : Fun K "jump" "Run.jump" s_Run_jump f fd) : Mth P w K mg base CR "jump" 1 ["self", "j"] (spJump CR) := by
  refine ⟨f, fd, M, F.binds (ps := ["self", "j"]) fun _ _ _ _ _ _ us hl => match us, hl with | [_, _], _ => rfl, ?_⟩
  refine F.ok sc_Run_jump (fun vs H Q E h => ?_) (fun cdv A outer s H vs Q E hr h => ?_)
  · obtain ⟨H0, x, m, hand, j, g, p, s, rfl, _⟩ := h
    rfl
  · obtain ⟨H0, x, m, hand, j, g, p, s, rfl, R, ew, k⟩ := h
    refine ⟨_, (pss_cons (ps_asg (pe_fldK (K := K) (pv 0) rfl) (pg_tup (by rfl) (pgs_cons (pg_name (i := 2) sc_Run_jump.nd rfl (Or.inl rfl)) (pgs_cons (pg_name (i := 3) sc_Run_jump.nd rfl (Or.inl rfl)) pgs_nil))))
 (pss_one (ps_fldK (K := K) (pv 0) (pe_tup (pa_cons (pv 2) (pa_cons (pv 1) pa_nil))) rfl))), ?_⟩
    obtain ⟨dx, lp, lm, lc, ls, lt, as, vw, r, n⟩ := R.ex
    rcases wh_val r.hw with ⟨e, _⟩ | ⟨g1, p1, q, e, rfl, hq⟩
    · rw [ew] at e; cases e
    rw [ew] at e
    cases e
    walk_at "rds"
    refine ⟨x, CR, dx, _, _, rfl, r.hx, T.cl, T.n_where, rF_where, ?_⟩
    walk_at "rd"
    intro q2 hq2
    have s2 := same_upd (o := .tup [.int g, .int j]) hq2
    have r2 := r.same s2
    walk_at "rd"
    refine ⟨x, CR, dx, _, rfl, r2.hx, T.cl, T.n_where, by show 10 < 1000; decide, ?_⟩
    walk_at "rd"
    exact k _ ⟨⟨dx, lp, lm, lc, ls, lt, as, .ref q2, r2.fld (s' := { s with wh := some (g, j) }) _ put_where rfl rfl rfl rfl rfl (.tup upd_same (.cons (.int _) (.cons (.int _) .nil))), n⟩, R.nx, same_put (R.sm.trans s2) R.nx⟩ ((Tk.of s2).trans (Tk.ins r2.hx))
def spNext (C CR CF : Addr) : Sp := fun vs H Q E => ∃ (H0 : Hp) (x m : Addr) (us : List V) (xs : List Sg) (b hand g p : Int) (s : Rn), vs = [.ref x] ∧ Mch C H0 m us xs b ∧ RunAt CR H0 H x m hand s ∧ s.wh = some (g, p) ∧ 0 ≤ g ∧ g < (xs.length : Int) ∧
  (0 ≤ p ∧ p < ((sgAt xs g).rs.length : Int) → ∀ v, Rp H v (((sgAt xs g).rs.getD p.toNat ⟨"return", []⟩)).d → Q v H) ∧ (¬ (0 ≤ p ∧ p < ((sgAt xs g).rs.length : Int)) → Flt CF E H "row")
theorem ok_next {f C CR CF : Addr} {fd : FuncData} (B : BT mg) (TM : MC K mg C) (T : RCl K mg CR) (Fc : FltC P w K mg base CF) (M : Meth K CR "next_row" f) (F : Fun K "next_row" "Run.next_row" s_Run_next_row f fd) (M_seg : Mth P w K mg base C "segment" 3 ["self", "number"] (spSegAt C)) : MthX P w K mg base CR "next_row" 4 ["self"] (spNext C CR CF) := by
  refine ⟨f, fd, M, F.binds (ps := ["self"]) fun _ _ _ _ _ _ us hl => match us, hl with | [_], _ => rfl, ?_⟩
  refine Fun.okN F sc_Run_next_row (fun vs H Q E h => ?_) (fun cdv A outer s H vs Q E hr h => ?_)
  · obtain ⟨H0, x, m, us, xs, b, hand, g, p, s, rfl, _⟩ := h
    rfl
  · obtain ⟨H0, x, m, us, xs, b, hand, g, p, s, rfl, Mc, R, ew, g0, gN, k1, k2⟩ := h
    refine ⟨_, (pss_cons (ps_asg (pe_fldK (K := K) (pv 0) rfl) (pg_tup (by rfl) (pgs_cons (pg_name (i := 1) sc_Run_next_row.nd rfl (Or.inl rfl)) (pgs_cons (pg_name (i := 2) sc_Run_next_row.nd rfl (Or.inl rfl)) pgs_nil))))
 (pss_cons (ps_set (i := 3) sc_Run_next_row.nd rfl (Or.inl rfl) (pe_ix (r := rIxT K) ix_tup (pe_mth M_seg TM.cl (hr.mono (by omega)) (pe_fldK (K := K) (pv 0) rfl) (pa_cons (pv 1) pa_nil)) pe_int (fun _ _ => rfl)))
 (pss_cons (ps_if (pt_not (pt_chain op_le op_lt pe_int (pv 2) (pe_callB (cr_lenS (K := K)) rfl B.g_len PySem.boot_len (pa_cons (pv 3) pa_nil)))) (pss_one (ps_fault Fc rfl (L2N.takes_of rfl rfl rfl rfl) (hr.mono (by omega)) rfl pe_str)) pss_nil)
 (pss_one (ps_ret (pe_ix (r := rIxT K) ix_tup (pv 3) (pv 2) (fun _ _ => rfl))))))), ?_⟩
    obtain ⟨dx, lp, lm, lc, ls, lt, as, vw, r, n⟩ := R.ex
    rcases wh_val r.hw with ⟨e, _⟩ | ⟨g1, p1, q, e, rfl, hq⟩
    · rw [ew] at e; cases e
    rw [ew] at e
    cases e
    obtain ⟨sv, hsv, rsv, gu⟩ := seg_get Mc g0 gN
    replace rsv := rsv.keep (Tk.of R.sm)
    obtain ⟨p1, vs, rfl, hp1, ha⟩ := id rsv.tup_inv
    obtain ⟨x0, xr, rfl, h0, ha⟩ := ha.cons_inv
    obtain ⟨x1, xr, rfl, h1, ha⟩ := ha.cons_inv
    obtain ⟨x2, xr, rfl, h2, ha⟩ := ha.cons_inv
    obtain ⟨x3, xr, rfl, h3, ha⟩ := ha.cons_inv
    obtain ⟨x4, xr, rfl, h4, ha⟩ := ha.cons_inv
    have e5 := ha.nil_inv; subst e5
    obtain ⟨pr, vr, rfl, hpr, har⟩ := id h4.tup_inv
    have lvr : vr.length = (sgAt xs g).rs.length := by rw [har.length, List.length_map]
    walk_at "rds"
    refine ⟨x, CR, dx, _, _, rfl, r.hx, T.cl, T.n_where, rF_where, ?_⟩
    walk_at "rd"
    refine ⟨x, CR, dx, _, _, rfl, r.hx, T.cl, T.n_machine, rF_machine, ?_⟩
    obtain ⟨mdx, mq, mh1, mh2⟩ := id (Mc.at_.same R.sm)
    refine ⟨m, mdx, _, rfl, mh1, mFlds_no mq b (by decide +kernel) (by decide +kernel), ?_⟩
    walk_at "rd"
    refine ⟨m, us, b, g, .ref p1, rfl, Mc.at_.same R.sm, g0, gu, hsv, ?_⟩
    walk_at "rd"
    refine rd_ifd (fun c0 => ?_) (fun c0 => ?_)
    case refine_2 =>
      walk_at "rd"
      exact (k2 (fun z => c0 z.1)).here
    walk_at "rd"
    refine ⟨pr, vr, rfl, .inr (SqT.of hpr), ?_⟩
    rw [lvr]
    walk_at "rd"
    refine rd_ifn (fun c1 => ?_) (fun c1 => ?_)
    case refine_2 =>
      walk_at "rd"
      exact (k2 (fun z => of_decide_eq_false c1 z.2)).here
    have hp2 := of_decide_eq_true c1
    obtain ⟨u, hu, ru⟩ := har.get2 (i := p.toNat) (d := ((sgAt xs g).rs.getD p.toNat ⟨"return", []⟩).d) (by rw [List.getElem?_map, List.getD_eq_getElem?_getD, List.getElem?_eq_getElem (by omega)]; rfl)
    walk_at "rd"
    refine rd_ixT hpr (at_of (by omega) hu) ?_
    exact k1 ⟨c0, hp2⟩ u ru
def spForget (CR : Addr) : Sp := fun vs H Q _ => ∃ (H0 : Hp) (x m : Addr) (hand : Int) (s : Rn), vs = [.ref x] ∧ RunAt CR H0 H x m hand s ∧ ∀ H', RunAt CR H0 H' x m hand { s with a := 0, pt := [none, none, none, none] } → Tk H H' → (∀ b fs, H b = some (.xd fs) → H' b = some (.xd fs)) → Q .non H'
theorem run_free {CR : Addr} {H0 H : Hp} {x dx m : Addr} {hand : Int} {lp lm lc ls lt : Addr} {as : List Addr} {vw : V} {s : Rn} (r : RA CR H x dx m hand lp lm lc ls lt as vw s) {q : Addr} (hq : H q = none) : q ≠ lm ∧ q ≠ lc ∧ q ≠ ls ∧ q ≠ lt ∧ q ∉ as := by
  obtain ⟨_, h1, _⟩ := r.hc
  obtain ⟨_, h2, _⟩ := r.hs
  obtain ⟨_, h3, _⟩ := r.ht
  refine ⟨Ne.symm (ne_of_none r.hm hq), Ne.symm (ne_of_none h1 hq), Ne.symm (ne_of_none h2 hq), Ne.symm (ne_of_none h3 hq), fun hm => ?_⟩
  obtain ⟨i, hi, e⟩ := List.getElem_of_mem hm
  have hl : i < s.me.length := r.la ▸ hi
  obtain ⟨v, h4, _⟩ := r.ha i q _ (by rw [List.getElem?_eq_getElem hi, e]) (List.getElem?_eq_getElem hl)
  rw [hq] at h4
  cases h4
def Rn.sd (s : Rn) (hand : Int) : Sd := ⟨hand, s.a, s.pt, s.me⟩
def spStand (CR : Addr) : Sp := fun vs H Q _ => ∃ (H0 : Hp) (x m : Addr) (hand : Int) (s : Rn), vs = [.ref x] ∧ RunAt CR H0 H x m hand s ∧ s.me.length ≤ 900 ∧ ∀ (v : V) (H' : Hp), Rp H' v (s.sd hand).d → Same H H' → Q v H'
theorem ok_stand {f CR : Addr} {fd : FuncData} (B : BT mg) (T : RCl K mg CR) (M : Meth K CR "stand_now" f) (F : Fun K "stand_now" "Run.stand_now" s_Run_stand_now f fd) : Mth P w K mg base CR "stand_now" 1 ["self"] (spStand CR) := by
  refine ⟨f, fd, M, F.binds (ps := ["self"]) fun _ _ _ _ _ _ us hl => match us, hl with | [_], _ => rfl, ?_⟩
  refine F.ok sc_Run_stand_now (fun vs H Q E h => ?_) (fun cdv A outer s H vs Q E hr h => ?_)
  · obtain ⟨H0, x, m, hand, s, rfl, _⟩ := h
    rfl
  · obtain ⟨H0, x, m, hand, s, rfl, R, l9, k⟩ := h
    refine ⟨_, (pss_cons (ps_set (i := 1) sc_Run_stand_now.nd rfl (Or.inl rfl) (pe_callTy (cr_tupOf (K := K)) rfl B.g_tuple (by decide +kernel) (pa_cons (pe_lc (own := [("words", 2)]) (g := gName 2) (tt := tYes) rfl sc_Run_stand_now.nd (pi_listK (K := K) (pe_fldK (K := K) (pv 0) rfl)) (blkOk_by (own := [("words", 2)]) (N := ["self", "memory", "words"]) (sc := defScope s_Run_stand_now) (by decide +kernel)) (fun _ _ _ _ _ => (pg_name (i := 2) sc_Run_stand_now.nd rfl (by first | exact Or.inl rfl | exact Or.inr rfl))) (fun _ _ _ _ _ => pts_nil) (fun _ _ _ _ _ => (pe_callTy (cr_tupOf (K := K)) rfl B.g_tuple (by decide +kernel) (pa_cons (pv 2) pa_nil)))) pa_nil)))
 (pss_one (ps_ret (pe_tup (pa_cons (pe_fldK (K := K) (pv 0) rfl) (pa_cons (pe_fldK (K := K) (pv 0) rfl) (pa_cons (pe_callTy (cr_tupOf (K := K)) rfl B.g_tuple (by decide +kernel) (pa_cons (pe_fldK (K := K) (pv 0) rfl) pa_nil)) (pa_cons (pv 1) pa_nil)))))))), ?_⟩
    obtain ⟨dx, lp, lm, lc, ls, lt, as, vw, r, n⟩ := R.ex
    walk_at "rds"
    refine ⟨x, CR, dx, _, _, rfl, r.hx, T.cl, T.n_memory, rF_memory, ?_⟩
    walk_at "rd"
    refine ⟨lm, rfl, ⟨_, SqL.of r.hm⟩, fun D hD => ?_⟩
    refine lc_it (walk_list (xs := as.map V.ref)) (CompR D H s.me (fun ws => .tuple (ws.map Wd.d))) (CompR.start hD) (fun i H' _ p => by obtain ⟨_, _, _, p⟩ := p; exact SqL.of (p _ _ r.hm)) ?_ ?_
    · rintro i y H2 H3 hi pc ⟨rfl, hy⟩
      obtain ⟨_, _, _, s2⟩ := id pc
      rw [List.length_map] at hi
      rw [List.getElem?_map, List.getElem?_eq_getElem hi] at hy
      cases hy
      have hl : i < s.me.length := r.la ▸ hi
      obtain ⟨v, h1, h2⟩ := (r.same s2).ha i _ _ (List.getElem?_eq_getElem hi) (List.getElem?_eq_getElem hl)
      walk_at "rd"
      refine ⟨rfl, ?_⟩
      walk_at "rd"
      refine ⟨_, v, rfl, .inl ⟨SqL.of h1, fun q hq => ?_⟩⟩
      exact pc.step hD (by omega) (List.getElem?_eq_getElem hl) (same_upd hq) (.tup upd_same (h2.keep (Tk.new hq)))
    intro H2 pc
    obtain ⟨vm, hvm, rvm, s2⟩ := pc.end (by rw [List.length_map]; exact r.la)
    walk_at "rd"
    refine ⟨D, vm, rfl, .inl ⟨SqL.of hvm, fun pm hpm => ?_⟩⟩
    have s3 := s2.trans (same_upd (o := .tup vm) hpm)
    have r3 := r.same s3
    have rvm3 := rvm.keep (Tk.new (o := .tup vm) hpm)
    have hpm3 : upd H2 pm (.tup vm) pm = some (.tup vm) := upd_same
    generalize upd H2 pm (.tup vm) = H3 at s3 r3 rvm3 hpm3
    obtain ⟨vp, hvp, rvp⟩ := r3.hp
    walk_at "rd"
    refine ⟨x, CR, dx, _, _, rfl, r3.hx, T.cl, T.n_hand, rF_hand, ?_⟩
    walk_at "rd"
    refine ⟨x, CR, dx, _, _, rfl, r3.hx, T.cl, T.n_a, rF_a, ?_⟩
    walk_at "rd"
    refine ⟨x, CR, dx, _, _, rfl, r3.hx, T.cl, T.n_pointers, rF_pointers, ?_⟩
    walk_at "rd"
    refine ⟨lp, vp, rfl, .inl ⟨SqL.of hvp, fun q4 hq4 => ?_⟩⟩
    have s4 := same_upd (o := .tup vp) hq4
    walk_at "rd"
    intro q5 hq5
    have s5 := same_upd (o := .tup [.int hand, .int s.a, .ref q4, .ref pm]) hq5
    exact k _ _ (.tup upd_same (.cons (.int _) (.cons (.int _) (.cons (.tup (s5 _ _ upd_same) (rvp.keep (Tk.of (s4.trans s5)))) (.cons (.tup ((s4.trans s5) _ _ hpm3) (rvm3.keep (Tk.of (s4.trans s5)))) .nil))))) ((s3.trans s4).trans s5)
end
open PySem PySem.Spec L2
section
variable {P : Program} {w : World} {K : PySem.W.Frag} {mg : Str → Option Value} {base : Heap}
theorem mb {C : Addr} {H0 H : Hp} {m : Addr} {us : List V} {xs : List Sg} {b : Int} (M : Mch C H0 m us xs b) (e : Same H0 H) : ∃ dx q, H m = some (.ins C dx (mFlds q b)) := let ⟨dx, q, h, _⟩ := M.at_; ⟨dx, q, e _ _ h⟩
def one (ns : List Int) : Int := ns.getD 0 0
def two (ns : List Int) : Int := ns.getD 1 0
def three (ns : List Int) : Int := ns.getD 2 0
def ok1 (_ : List Sg) (ns : List Int) : Prop := ∃ a, ns = [a]
def okP2 (_ : List Sg) (ns : List Int) : Prop := ∃ p w, ns = [p, w] ∧ 0 ≤ p ∧ p < 4
theorem ok_set {f C CR CF : Addr} {fd : FuncData} (TM : MC K mg C) (T : RCl K mg CR) (F : Fun K "do_set" "do_set" s_do_set f fd) : FnOk P w K mg base (L2N.CX P w) 6 f fd ["run", "n"] (spDo C CR CF (fun _ b s ns => rSet b s (one ns)) ok1) := by
  refine Fun.okN F sc_do_set (fun vs H Q E h => ?_) (fun cdv A outer s H vs Q E hr h => ?_)
  · obtain ⟨H0, x, m, us, xs, b, hand, s, ns, rfl, _, _, _, ⟨a, rfl⟩, _⟩ := h
    rfl
  · obtain ⟨H0, x, m, us, xs, b, hand, s, ns, rfl, Mc, R, wf, ⟨nn, rfl⟩, k⟩ := h
    replace k : RunEnd CR CF Q E H0 H x m hand (rSet b s nn) := k
    refine ⟨_, (pss_one (ps_fldK (K := K) (pv 0) (pe_op op_mod (pv 1) (pe_fldK (K := K) (pe_fldK (K := K) (pv 0) rfl) rfl)) rfl)), ?_⟩
    obtain ⟨dx, lp, lm, lc, ls, lt, as, vw, r, n⟩ := R.ex
    obtain ⟨mdx, mq, mh⟩ := mb Mc R.sm
    have b2 := Mc.b2
    walk_at "rds"
    refine ⟨x, CR, dx, _, _, rfl, r.hx, T.cl, T.n_machine, rF_machine, ?_⟩
    refine ⟨m, C, mdx, _, _, rfl, mh, TM.cl, TM.nB, mFlds_b mq b, ?_⟩
    walk_at "rd"
    refine ⟨x, CR, dx, _, rfl, r.hx, T.cl, T.n_a, by show 10 < 1000; decide, ?_⟩
    walk_at "rd"
    exact k _ ⟨⟨dx, lp, lm, lc, ls, lt, as, vw, r.fld (s' := { s with a := nn % b }) _ (put_a (v3 := .int s.a)) rfl rfl rfl rfl rfl r.hw, n⟩, R.nx, same_put R.sm R.nx⟩ (Tk.ins r.hx)
theorem ok_add {f C CR CF : Addr} {fd : FuncData} (TM : MC K mg C) (T : RCl K mg CR) (F : Fun K "do_add" "do_add" s_do_add f fd) : FnOk P w K mg base (L2N.CX P w) 6 f fd ["run", "n"] (spDo C CR CF (fun _ b s ns => rAdd b s (one ns)) ok1) := by
  refine Fun.okN F sc_do_add (fun vs H Q E h => ?_) (fun cdv A outer s H vs Q E hr h => ?_)
  · obtain ⟨H0, x, m, us, xs, b, hand, s, ns, rfl, _, _, _, ⟨a, rfl⟩, _⟩ := h
    rfl
  · obtain ⟨H0, x, m, us, xs, b, hand, s, ns, rfl, Mc, R, wf, ⟨nn, rfl⟩, k⟩ := h
    replace k : RunEnd CR CF Q E H0 H x m hand (rAdd b s nn) := k
    refine ⟨_, (pss_one (ps_fldK (K := K) (pv 0) (pe_op op_mod (pe_op op_add (pe_fldK (K := K) (pv 0) rfl) (pv 1)) (pe_fldK (K := K) (pe_fldK (K := K) (pv 0) rfl) rfl)) rfl)), ?_⟩
    obtain ⟨dx, lp, lm, lc, ls, lt, as, vw, r, n⟩ := R.ex
    obtain ⟨mdx, mq, mh⟩ := mb Mc R.sm
    have b2 := Mc.b2
    walk_at "rds"
    refine ⟨x, CR, dx, _, _, rfl, r.hx, T.cl, T.n_a, rF_a, ?_⟩
    walk_at "rd"
    refine ⟨x, CR, dx, _, _, rfl, r.hx, T.cl, T.n_machine, rF_machine, ?_⟩
    refine ⟨m, C, mdx, _, _, rfl, mh, TM.cl, TM.nB, mFlds_b mq b, ?_⟩
    walk_at "rd"
    refine ⟨x, CR, dx, _, rfl, r.hx, T.cl, T.n_a, by show 10 < 1000; decide, ?_⟩
    walk_at "rd"
    exact k _ ⟨⟨dx, lp, lm, lc, ls, lt, as, vw, r.fld (s' := { s with a := (s.a + nn) % b }) _ (put_a (v3 := .int s.a)) rfl rfl rfl rfl rfl r.hw, n⟩, R.nx, same_put R.sm R.nx⟩ (Tk.ins r.hx)
theorem ok_load {f C CR CF : Addr} {fd : FuncData} (T : RCl K mg CR) (Fc : FltC P w K mg base CF) (F : Fun K "do_load" "do_load" s_do_load f fd) (M_read : MthX P w K mg base CR "read" 5 ["self", "p", "w"] (spRead C CR CF)) : FnOk P w K mg base (L2N.CX P w) 6 f fd ["run", "p", "w"] (spDo C CR CF (fun xs _ s ns => rLoad xs s (one ns) (two ns)) okP2) := by
  refine Fun.okN F sc_do_load (fun vs H Q E h => ?_) (fun cdv A outer s H vs Q E hr h => ?_)
  · obtain ⟨H0, x, m, us, xs, b, hand, s, ns, rfl, _, _, _, ⟨p, w, rfl, _⟩, _⟩ := h
    rfl
  · obtain ⟨H0, x, m, us, xs, b, hand, s, ns, rfl, Mc, R, wf, ⟨p, w, rfl, p0, p4⟩, k⟩ := h
    replace k : RunEnd CR CF Q E H0 H x m hand (rLoad xs s p w) := k
    refine ⟨_, (pss_cons (ps_asg (pe_mthE (E := E) M_read T.cl (hr.mono (by omega)) (L2N.takes_of rfl rfl rfl rfl) (pv 0) (pa_cons (pv 1) (pa_cons (pv 2) pa_nil))) (pg_tup (by rfl) (pgs_cons (pg_name (i := 3) sc_do_load.nd rfl (Or.inl rfl)) (pgs_cons (pg_name (i := 4) sc_do_load.nd rfl (Or.inl rfl)) (pgs_cons (pg_name (i := 5) sc_do_load.nd rfl (Or.inl rfl)) pgs_nil)))))
 (pss_cons (ps_if (pt_cmpR op_ne (pe_ix (r := rIxT K) ix_tup (pv 3) pe_int (fun _ _ => rfl)) pe_str (nomark _)) (pss_one (ps_fault Fc rfl (L2N.takes_of rfl rfl rfl rfl) (hr.mono (by omega)) rfl pe_str)) pss_nil)
 (pss_one (ps_fldK (K := K) (pv 0) (pe_ix (r := rIxT K) ix_tup (pv 3) pe_int (fun _ _ => rfl)) rfl)))), ?_⟩
    obtain ⟨dx, lp, lm, lc, ls, lt, as, vw, r, n⟩ := R.ex
    walk_at "rds"
    refine ⟨x, dx, _, rfl, r.hx, rF_no_read, ?_⟩
    walk_at "rd"
    refine ⟨H0, x, m, us, xs, b, hand, p, w, s, rfl, Mc, R, wf, p0, p4, fun wd e g s' hr1 v q H1 hq rv R1 tk1 => ?_, fun c hc => ?_⟩
    case refine_2 =>
      have ek : rLoad xs s p w = (s, some c) := by unfold rLoad; rw [hc]
      rw [ek] at k
      exact k.flt R (Tk.refl _)
    unfold rLoad at k
    rw [hr1] at k
    obtain ⟨dx1, lp1, lm1, lc1, ls1, lt1, as1, vw1, r1, n1⟩ := R1.ex
    cases wd with
    | num nn =>
      replace k : RunEnd CR CF Q E H0 H x m hand ({ s' with a := nn }, none) := k
      obtain ⟨p2, vs, rfl, hp2, ha⟩ := rv.tup_inv
      obtain ⟨y0, yr, rfl, z0, ha⟩ := ha.cons_inv
      obtain ⟨y1, yr, rfl, z1, ha⟩ := ha.cons_inv
      have e5 := ha.nil_inv; subst e5
      have e0 := z0.str_inv; subst e0
      have e1 := z1.int_inv; subst e1
      walk_at "rd"
      refine rd_ifbF (by decide +kernel) ?_
      walk_at "rd"
      refine ⟨x, CR, dx1, _, rfl, r1.hx, T.cl, T.n_a, by show 10 < 1000; decide, ?_⟩
      walk_at "rd"
      exact k _ ⟨⟨dx1, lp1, lm1, lc1, ls1, lt1, as1, vw1, r1.fld (s' := { s' with a := nn }) _ (put_a (v3 := .int s'.a)) rfl rfl rfl rfl rfl r1.hw, n1⟩, R1.nx, same_put R1.sm R1.nx⟩ (tk1.trans (Tk.ins r1.hx))
    | ptr a1 a2 a3 =>
      replace k : RunEnd CR CF Q E H0 H x m hand (s', some "kind") := k
      obtain ⟨p2, vs, rfl, hp2, ha⟩ := rv.tup_inv
      obtain ⟨y0, yr, rfl, z0, ha⟩ := ha.cons_inv
      have e0 := z0.str_inv; subst e0
      walk_at "rd"
      refine rd_ifbT (by decide +kernel) ?_
      walk_at "rd"
      exact (k.flt R1 tk1).here
theorem ok_store {f C CR CF : Addr} {fd : FuncData} (T : RCl K mg CR) (F : Fun K "do_store" "do_store" s_do_store f fd) (M_write : MthX P w K mg base CR "write" 5 ["self", "p", "w", "word"] (spWrite C CR CF)) : FnOk P w K mg base (L2N.CX P w) 6 f fd ["run", "p", "w"] (spDo C CR CF (fun xs _ s ns => rStore xs s (one ns) (two ns)) okP2) := by
  refine Fun.okN F sc_do_store (fun vs H Q E h => ?_) (fun cdv A outer s H vs Q E hr h => ?_)
  · obtain ⟨H0, x, m, us, xs, b, hand, s, ns, rfl, _, _, _, ⟨p, w, rfl, _⟩, _⟩ := h
    rfl
  · obtain ⟨H0, x, m, us, xs, b, hand, s, ns, rfl, Mc, R, wf, ⟨p, w, rfl, p0, p4⟩, k⟩ := h
    replace k : RunEnd CR CF Q E H0 H x m hand (writeR xs s p w (.num s.a)) := k
    refine ⟨_, (pss_one (ps_expr (pe_mthE (E := E) M_write T.cl (hr.mono (by omega)) (L2N.takes_of rfl rfl rfl rfl) (pv 0) (pa_cons (pv 1) (pa_cons (pv 2) (pa_cons (pe_tup (pa_cons pe_str (pa_cons (pe_fldK (K := K) (pv 0) rfl) pa_nil))) pa_nil)))))), ?_⟩
    obtain ⟨dx, lp, lm, lc, ls, lt, as, vw, r, n⟩ := R.ex
    walk_at "rds"
    refine ⟨x, dx, _, rfl, r.hx, rF_no_write, ?_⟩
    walk_at "rd"
    refine ⟨x, CR, dx, _, _, rfl, r.hx, T.cl, T.n_a, rF_a, ?_⟩
    walk_at "rd"
    intro q1 hq1
    have s1 := same_upd (o := .tup [.str "num", .int s.a]) hq1
    walk_at "rd"
    refine ⟨H0, x, m, us, xs, b, hand, p, w, .ref q1, .num s.a, s, rfl, Mc, R.same s1, wf, p0, p4, .tup upd_same (.cons (.str _) (.cons (.int _) .nil)), ?_⟩
    cases e : writeR xs s p w (.num s.a) with
    | mk s' o =>
      rw [e] at k
      cases o with
      | none => exact fun H' R' tk' => k H' R' ((Tk.of s1).trans tk')
      | some c => exact fun d H' hd h0 R' tk' => k d H' hd h0 R' ((Tk.of s1).trans tk')
end
open PySem PySem.Spec L2
section
variable {P : Program} {w : World} {K : PySem.W.Frag} {mg : Str → Option Value} {base : Heap}
theorem putn_machine {v0 : V} : putF ("machine" : Str) v0 ([] : List (Str × V)) = ([("machine", v0)] : List (Str × V)) := by rfl
theorem putn_hand {v0 v1 : V} : putF ("hand" : Str) v1 ([("machine", v0)] : List (Str × V)) = ([("machine", v0), ("hand", v1)] : List (Str × V)) := by unfold putF; rw [if_neg (by decide +kernel)]; rfl
theorem putn_ring {v0 v1 v2 : V} : putF ("ring" : Str) v2 ([("machine", v0), ("hand", v1)] : List (Str × V)) = ([("machine", v0), ("hand", v1), ("ring", v2)] : List (Str × V)) := by unfold putF; rw [if_neg (by decide +kernel)]; unfold putF; rw [if_neg (by decide +kernel)]; rfl
theorem putn_a {v0 v1 v2 v3 : V} : putF ("a" : Str) v3 ([("machine", v0), ("hand", v1), ("ring", v2)] : List (Str × V)) = ([("machine", v0), ("hand", v1), ("ring", v2), ("a", v3)] : List (Str × V)) := by unfold putF; rw [if_neg (by decide +kernel)]; unfold putF; rw [if_neg (by decide +kernel)]; unfold putF; rw [if_neg (by decide +kernel)]; rfl
theorem putn_pointers {v0 v1 v2 v3 v4 : V} : putF ("pointers" : Str) v4 ([("machine", v0), ("hand", v1), ("ring", v2), ("a", v3)] : List (Str × V)) = ([("machine", v0), ("hand", v1), ("ring", v2), ("a", v3), ("pointers", v4)] : List (Str × V)) := by unfold putF; rw [if_neg (by decide +kernel)]; unfold putF; rw [if_neg (by decide +kernel)]; unfold putF; rw [if_neg (by decide +kernel)]; unfold putF; rw [if_neg (by decide +kernel)]; rfl
theorem putn_memory {v0 v1 v2 v3 v4 v5 : V} : putF ("memory" : Str) v5 ([("machine", v0), ("hand", v1), ("ring", v2), ("a", v3), ("pointers", v4)] : List (Str × V)) = ([("machine", v0), ("hand", v1), ("ring", v2), ("a", v3), ("pointers", v4), ("memory", v5)] : List (Str × V)) := by unfold putF; rw [if_neg (by decide +kernel)]; unfold putF; rw [if_neg (by decide +kernel)]; unfold putF; rw [if_neg (by decide +kernel)]; unfold putF; rw [if_neg (by decide +kernel)]; unfold putF; rw [if_neg (by decide +kernel)]; rfl
theorem putn_where {v0 v1 v2 v3 v4 v5 v6 : V} : putF ("where" : Str) v6 ([("machine", v0), ("hand", v1), ("ring", v2), ("a", v3), ("pointers", v4), ("memory", v5)] : List (Str × V)) = ([("machine", v0), ("hand", v1), ("ring", v2), ("a", v3), ("pointers", v4), ("memory", v5), ("where", v6)] : List (Str × V)) := by unfold putF; rw [if_neg (by decide +kernel)]; unfold putF; rw [if_neg (by decide +kernel)]; unfold putF; rw [if_neg (by decide +kernel)]; unfold putF; rw [if_neg (by decide +kernel)]; unfold putF; rw [if_neg (by decide +kernel)]; unfold putF; rw [if_neg (by decide +kernel)]; rfl
theorem putn_calls {v0 v1 v2 v3 v4 v5 v6 v7 : V} : putF ("calls" : Str) v7 ([("machine", v0), ("hand", v1), ("ring", v2), ("a", v3), ("pointers", v4), ("memory", v5), ("where", v6)] : List (Str × V)) = ([("machine", v0), ("hand", v1), ("ring", v2), ("a", v3), ("pointers", v4), ("memory", v5), ("where", v6), ("calls", v7)] : List (Str × V)) := by unfold putF; rw [if_neg (by decide +kernel)]; unfold putF; rw [if_neg (by decide +kernel)]; unfold putF; rw [if_neg (by decide +kernel)]; unfold putF; rw [if_neg (by decide +kernel)]; unfold putF; rw [if_neg (by decide +kernel)]; unfold putF; rw [if_neg (by decide +kernel)]; unfold putF; rw [if_neg (by decide +kernel)]; rfl
theorem putn_steps {v0 v1 v2 v3 v4 v5 v6 v7 v8 : V} : putF ("steps" : Str) v8 ([("machine", v0), ("hand", v1), ("ring", v2), ("a", v3), ("pointers", v4), ("memory", v5), ("where", v6), ("calls", v7)] : List (Str × V)) = ([("machine", v0), ("hand", v1), ("ring", v2), ("a", v3), ("pointers", v4), ("memory", v5), ("where", v6), ("calls", v7), ("steps", v8)] : List (Str × V)) := by unfold putF; rw [if_neg (by decide +kernel)]; unfold putF; rw [if_neg (by decide +kernel)]; unfold putF; rw [if_neg (by decide +kernel)]; unfold putF; rw [if_neg (by decide +kernel)]; unfold putF; rw [if_neg (by decide +kernel)]; unfold putF; rw [if_neg (by decide +kernel)]; unfold putF; rw [if_neg (by decide +kernel)]; unfold putF; rw [if_neg (by decide +kernel)]; rfl
theorem putn_touches {v0 v1 v2 v3 v4 v5 v6 v7 v8 v9 : V} : putF ("touches" : Str) v9 ([("machine", v0), ("hand", v1), ("ring", v2), ("a", v3), ("pointers", v4), ("memory", v5), ("where", v6), ("calls", v7), ("steps", v8)] : List (Str × V)) = ([("machine", v0), ("hand", v1), ("ring", v2), ("a", v3), ("pointers", v4), ("memory", v5), ("where", v6), ("calls", v7), ("steps", v8), ("touches", v9)] : List (Str × V)) := by unfold putF; rw [if_neg (by decide +kernel)]; unfold putF; rw [if_neg (by decide +kernel)]; unfold putF; rw [if_neg (by decide +kernel)]; unfold putF; rw [if_neg (by decide +kernel)]; unfold putF; rw [if_neg (by decide +kernel)]; unfold putF; rw [if_neg (by decide +kernel)]; unfold putF; rw [if_neg (by decide +kernel)]; unfold putF; rw [if_neg (by decide +kernel)]; unfold putF; rw [if_neg (by decide +kernel)]; rfl
def initR (sd : Sd) : Rn := ⟨sd.ring, sd.a, sd.pt, sd.me, none, [], [], []⟩
def spRInit (CR : Addr) : Sp := fun vs H Q _ => ∃ (H0 : Hp) (x dx m : Addr) (v : V) (sd : Sd), vs = [.ref x, .ref m, v] ∧ H x = some (.ins CR dx []) ∧ H0 x = none ∧ Same H0 H ∧ Rp H v sd.d ∧ sd.me.length ≤ 900 ∧ ∀ H', RunAt CR H0 H' x m sd.ring (initR sd) → Tk H H' → Q .non H'
theorem ok_rinit {f CR : Addr} {fd : FuncData} (B : BT mg) (T : RCl K mg CR) (F : Fun K "__init__" "Run.__init__" s_Run__init f fd) : FnOk P w K mg base CX0 1 f fd ["self", "machine", "stand"] (spRInit CR) := by
  refine F.ok sc_Run__init (fun vs H Q E h => ?_) (fun cdv A outer s H vs Q E hr h => ?_)
  · obtain ⟨H0, x, dx, m, v, sd, rfl, _⟩ := h
    rfl
  · obtain ⟨H0, x, dx, m, v, ⟨ring, a, pt, me⟩, rfl, hx, nx, sm, rv, l9, k⟩ := h
    refine ⟨_, (pss_cons (ps_asg (pv 2) (pg_tup (by rfl) (pgs_cons (pg_name (i := 3) sc_Run__init.nd rfl (Or.inl rfl)) (pgs_cons (pg_name (i := 4) sc_Run__init.nd rfl (Or.inl rfl)) (pgs_cons (pg_name (i := 5) sc_Run__init.nd rfl (Or.inl rfl)) (pgs_cons (pg_name (i := 6) sc_Run__init.nd rfl (Or.inl rfl)) pgs_nil))))))
 (pss_cons (ps_fldK (K := K) (pv 0) (pv 1) rfl)
 (pss_cons (ps_fldK (K := K) (pv 0) (pv 3) rfl)
 (pss_cons (ps_fldK (K := K) (pv 0) (pv 3) rfl)
 (pss_cons (ps_fldK (K := K) (pv 0) (pv 4) rfl)
 (pss_cons (ps_fldK (K := K) (pv 0) (pe_callTy (cr_listOf (K := K)) rfl B.g_list (by decide +kernel) (pa_cons (pv 5) pa_nil)) rfl)
 (pss_cons (ps_fldK (K := K) (pv 0) (pe_lc (own := [("words", 7)]) (g := gName 7) (tt := tYes) rfl sc_Run__init.nd (pi_tupK (K := K) (pv 6)) (blkOk_by (own := [("words", 7)]) (N := ["self", "machine", "stand", "ring", "a", "pointers", "memory", "words"]) (sc := defScope s_Run__init) (by decide +kernel)) (fun _ _ _ _ _ => (pg_name (i := 7) sc_Run__init.nd rfl (by first | exact Or.inl rfl | exact Or.inr rfl))) (fun _ _ _ _ _ => pts_nil) (fun _ _ _ _ _ => (pe_callTy (cr_listOf (K := K)) rfl B.g_list (by decide +kernel) (pa_cons (pv 7) pa_nil)))) rfl)
 (pss_cons (ps_fldK (K := K) (pv 0) pe_non rfl)
 (pss_cons (ps_fldK (K := K) (pv 0) (pe_lst pa_nil) rfl)
 (pss_cons (ps_fldK (K := K) (pv 0) (pe_lst pa_nil) rfl)
 (pss_one (ps_fldK (K := K) (pv 0) (pe_lst pa_nil) rfl)))))))))))), ?_⟩
    obtain ⟨p, vs, rfl, hp, ha⟩ := rv.tup_inv
    obtain ⟨y0, yr, rfl, z0, ha⟩ := ha.cons_inv
    obtain ⟨y1, yr, rfl, z1, ha⟩ := ha.cons_inv
    obtain ⟨y2, yr, rfl, z2, ha⟩ := ha.cons_inv
    obtain ⟨y3, yr, rfl, z3, ha⟩ := ha.cons_inv
    have e5 := ha.nil_inv; subst e5
    have e0 := z0.int_inv; subst e0
    have e1 := z1.int_inv; subst e1
    obtain ⟨pp, vp, rfl, hpp, rvp⟩ := z2.tup_inv
    obtain ⟨pm, vm, rfl, hpm, rvm⟩ := z3.tup_inv
    dsimp only at rvp rvm l9 k
    walk_at "rds"
    refine ⟨x, CR, dx, _, rfl, hx, T.cl, T.n_machine, by show 0 < 1000; decide, ?_⟩
    rw [putn_machine]
    have tk1 := Tk.ins (o := .ins CR dx [("machine", .ref m)]) hx
    have hx1 : upd H x (.ins CR dx [("machine", .ref m)]) x = some (.ins CR dx [("machine", .ref m)]) := upd_same
    have sm1 := same_put (o := .ins CR dx [("machine", .ref m)]) sm nx
    generalize upd H x (.ins CR dx [("machine", .ref m)]) = H1 at tk1 hx1 sm1
    walk_at "rd"
    refine ⟨x, CR, dx, _, rfl, hx1, T.cl, T.n_hand, by show 1 < 1000; decide, ?_⟩
    rw [putn_hand]
    have tk2 := tk1.trans (Tk.ins (o := .ins CR dx [("machine", .ref m), ("hand", .int ring)]) hx1)
    have hx2 : upd H1 x (.ins CR dx [("machine", .ref m), ("hand", .int ring)]) x = some (.ins CR dx [("machine", .ref m), ("hand", .int ring)]) := upd_same
    have sm2 := same_put (o := .ins CR dx [("machine", .ref m), ("hand", .int ring)]) sm1 nx
    generalize upd H1 x (.ins CR dx [("machine", .ref m), ("hand", .int ring)]) = H2 at tk2 hx2 sm2
    walk_at "rd"
    refine ⟨x, CR, dx, _, rfl, hx2, T.cl, T.n_ring, by show 2 < 1000; decide, ?_⟩
    rw [putn_ring]
    have tk3 := tk2.trans (Tk.ins (o := .ins CR dx [("machine", .ref m), ("hand", .int ring), ("ring", .int ring)]) hx2)
    have hx3 : upd H2 x (.ins CR dx [("machine", .ref m), ("hand", .int ring), ("ring", .int ring)]) x = some (.ins CR dx [("machine", .ref m), ("hand", .int ring), ("ring", .int ring)]) := upd_same
    have sm3 := same_put (o := .ins CR dx [("machine", .ref m), ("hand", .int ring), ("ring", .int ring)]) sm2 nx
    generalize upd H2 x (.ins CR dx [("machine", .ref m), ("hand", .int ring), ("ring", .int ring)]) = H3 at tk3 hx3 sm3
    walk_at "rd"
    refine ⟨x, CR, dx, _, rfl, hx3, T.cl, T.n_a, by show 3 < 1000; decide, ?_⟩
    rw [putn_a]
    have tk4 := tk3.trans (Tk.ins (o := .ins CR dx [("machine", .ref m), ("hand", .int ring), ("ring", .int ring), ("a", .int a)]) hx3)
    have hx4 : upd H3 x (.ins CR dx [("machine", .ref m), ("hand", .int ring), ("ring", .int ring), ("a", .int a)]) x = some (.ins CR dx [("machine", .ref m), ("hand", .int ring), ("ring", .int ring), ("a", .int a)]) := upd_same
    have sm4 := same_put (o := .ins CR dx [("machine", .ref m), ("hand", .int ring), ("ring", .int ring), ("a", .int a)]) sm3 nx
    generalize upd H3 x (.ins CR dx [("machine", .ref m), ("hand", .int ring), ("ring", .int ring), ("a", .int a)]) = H4 at tk4 hx4 sm4
    walk_at "rd"
    refine ⟨pp, vp, rfl, .inr (SqT.of (tk4 _ _ hpp)), fun lp hlp => ?_⟩
    have s5 := same_upd (o := .lst vp) hlp
    walk_at "rd"
    refine ⟨x, CR, dx, _, rfl, s5 _ _ hx4, T.cl, T.n_pointers, by show 4 < 1000; decide, ?_⟩
    rw [putn_pointers]
    have tk5 := tk4.trans ((Tk.of s5).trans (Tk.ins (o := .ins CR dx [("machine", .ref m), ("hand", .int ring), ("ring", .int ring), ("a", .int a), ("pointers", .ref lp)]) (s5 _ _ hx4)))
    have hx5 : upd (upd H4 lp (.lst vp)) x (.ins CR dx [("machine", .ref m), ("hand", .int ring), ("ring", .int ring), ("a", .int a), ("pointers", .ref lp)]) x = some (.ins CR dx [("machine", .ref m), ("hand", .int ring), ("ring", .int ring), ("a", .int a), ("pointers", .ref lp)]) := upd_same
    have hlp5 : upd (upd H4 lp (.lst vp)) x (.ins CR dx [("machine", .ref m), ("hand", .int ring), ("ring", .int ring), ("a", .int a), ("pointers", .ref lp)]) lp = some (.lst vp) := (upd_ne (Ne.symm (ne_of_none hx4 hlp))).trans upd_same
    have sm5 := same_put (o := .ins CR dx [("machine", .ref m), ("hand", .int ring), ("ring", .int ring), ("a", .int a), ("pointers", .ref lp)]) (sm4.trans s5) nx
    have nlp : H0 lp = none := sm4.free hlp
    generalize upd (upd H4 lp (.lst vp)) x (.ins CR dx [("machine", .ref m), ("hand", .int ring), ("ring", .int ring), ("a", .int a), ("pointers", .ref lp)]) = H5 at tk5 hx5 hlp5 sm5
    have lvm : vm.length = me.length := by rw [rvm.length, List.length_map]
    walk_at "rd"
    refine ⟨pm, rfl, ⟨_, SqT.of (tk5 _ _ hpm)⟩, fun D hD => ?_⟩
    refine lc_it (walk_tup (xs := vm)) (fun i H' => Same H5 H' ∧ ∃ as : List Addr, as.length = i ∧ H' D = some (.lst (as.map V.ref)) ∧ as.Nodup ∧ (∀ q ∈ as, H5 q = none ∧ q ≠ D) ∧ ∀ (j : Nat) (q : Addr) (ws : List Wd), as[j]? = some q → me[j]? = some ws → ∃ v, H' q = some (.lst v) ∧ RpAll H' v (ws.map Wd.d)) ⟨same_upd hD, [], rfl, upd_same, .nil, fun q hq => (nomatch hq), fun j q ws h => by simp at h⟩ (fun i H' _ p => SqT.of (p.1 _ _ (tk5 _ _ hpm))) ?_ ?_
    · rintro i y Ha Hb hi ⟨sa, as, la, hDa, nda, fra, hra⟩ ⟨rfl, hy⟩
      obtain ⟨d, hd, ry⟩ := rvm.get hy
      rw [List.getElem?_map] at hd
      obtain ⟨ws, hws, rfl⟩ := Option.map_eq_some_iff.mp hd
      obtain ⟨q0, v0, rfl, hq0, rv0⟩ := (ry.keep (tk5.trans (Tk.of sa))).tup_inv
      walk_at "rd"
      refine ⟨rfl, ?_⟩
      walk_at "rd"
      refine ⟨q0, v0, rfl, .inr (SqT.of hq0), fun q1 hq1 => ?_⟩
      have s1 := same_upd (o := .lst v0) hq1
      have nD : q1 ≠ D := fun z => by rw [z, hDa] at hq1; cases hq1
      have tkD : Tk Hb (upd (upd Hb q1 (.lst v0)) D (.lst (as.map V.ref ++ [.ref q1]))) := (Tk.of s1).trans (Tk.lst (s1 _ _ hDa))
      refine ⟨as.map V.ref, s1 _ _ hDa, by rw [List.length_map, la]; exact small1000 (by omega), fun c o e => ?_, as ++ [q1], by simp [la], ?_, ?_, fun q hq => ?_, fun j q ws' h1 h2 => ?_⟩
      · rw [upd_ne (ne_of_none e hD)]
        exact s1 _ _ (sa _ _ e)
      · rw [upd_same, List.map_append]
        rfl
      · rw [List.nodup_append]
        refine ⟨nda, by simp, fun u hu z hz => ?_⟩
        rw [List.mem_singleton.mp hz]
        intro e
        subst e
        obtain ⟨j, hj, ej⟩ := List.getElem_of_mem hu
        obtain ⟨v1, hv1, _⟩ := hra j u _ (by rw [List.getElem?_eq_getElem hj, ej]) (List.getElem?_eq_getElem (show j < me.length by omega))
        rw [hq1] at hv1
        cases hv1
      · rcases List.mem_append.mp hq with h | h
        · exact fra q h
        · rw [List.mem_singleton.mp h]
          exact ⟨sa.free hq1, nD⟩
      · by_cases hj : j < as.length
        · rw [List.getElem?_append_left hj] at h1
          obtain ⟨v1, a1, a2⟩ := hra j q ws' h1 h2
          exact ⟨v1, (upd_ne (fra q (List.mem_of_getElem? h1)).2).trans (s1 _ _ a1), a2.keep tkD⟩
        · have ej : j = as.length := by
            have := (List.getElem?_eq_some_iff.mp h1).1
            simp at this
            omega
          subst ej
          simp at h1
          subst h1
          rw [la, hws] at h2
          cases h2
          exact ⟨v0, (upd_ne nD).trans upd_same, rv0.keep tkD⟩
    rintro H6 ⟨s6, as, la, hD6, nda, fra, hra⟩
    have hx6 := s6 _ _ hx5
    walk_at "rd"
    refine ⟨x, CR, dx, _, rfl, hx6, T.cl, T.n_memory, by show 5 < 1000; decide, ?_⟩
    rw [putn_memory]
    walk_at "rd"
    refine ⟨x, CR, dx, _, rfl, upd_same, T.cl, T.n_where, by show 6 < 1000; decide, ?_⟩
    rw [putn_where]
    have neL : ∀ {q : Addr} {u : List V} {o1 o2 : HO}, H6 q = some (.lst u) → upd (upd H6 x o1) x o2 q = some (.lst u) := fun {q u o1 o2} h => by
      have := ne_of h hx6 (fun z => nomatch z)
      rw [upd_ne this, upd_ne this]
      exact h
    have tk7 : Tk H6 (upd (upd H6 x (.ins CR dx [("machine", .ref m), ("hand", .int ring), ("ring", .int ring), ("a", .int a), ("pointers", .ref lp), ("memory", .ref D)])) x (.ins CR dx [("machine", .ref m), ("hand", .int ring), ("ring", .int ring), ("a", .int a), ("pointers", .ref lp), ("memory", .ref D), ("where", .non)])) := (Tk.ins hx6).trans (Tk.ins upd_same)
    have hx7 : upd (upd H6 x (.ins CR dx [("machine", .ref m), ("hand", .int ring), ("ring", .int ring), ("a", .int a), ("pointers", .ref lp), ("memory", .ref D)])) x (.ins CR dx [("machine", .ref m), ("hand", .int ring), ("ring", .int ring), ("a", .int a), ("pointers", .ref lp), ("memory", .ref D), ("where", .non)]) x = some (.ins CR dx [("machine", .ref m), ("hand", .int ring), ("ring", .int ring), ("a", .int a), ("pointers", .ref lp), ("memory", .ref D), ("where", .non)]) := upd_same
    have sm7 := same_put (o := .ins CR dx [("machine", .ref m), ("hand", .int ring), ("ring", .int ring), ("a", .int a), ("pointers", .ref lp), ("memory", .ref D), ("where", .non)]) (same_put (o := .ins CR dx [("machine", .ref m), ("hand", .int ring), ("ring", .int ring), ("a", .int a), ("pointers", .ref lp), ("memory", .ref D)]) (sm5.trans s6) nx) nx
    have hlp7 := neL (o1 := .ins CR dx [("machine", .ref m), ("hand", .int ring), ("ring", .int ring), ("a", .int a), ("pointers", .ref lp), ("memory", .ref D)]) (o2 := .ins CR dx [("machine", .ref m), ("hand", .int ring), ("ring", .int ring), ("a", .int a), ("pointers", .ref lp), ("memory", .ref D), ("where", .non)]) (s6 _ _ hlp5)
    have hD7 := neL (o1 := .ins CR dx [("machine", .ref m), ("hand", .int ring), ("ring", .int ring), ("a", .int a), ("pointers", .ref lp), ("memory", .ref D)]) (o2 := .ins CR dx [("machine", .ref m), ("hand", .int ring), ("ring", .int ring), ("a", .int a), ("pointers", .ref lp), ("memory", .ref D), ("where", .non)]) hD6
    have hra7 : ∀ (j : Nat) (q : Addr) (ws : List Wd), as[j]? = some q → me[j]? = some ws → ∃ v, upd (upd H6 x (.ins CR dx [("machine", .ref m), ("hand", .int ring), ("ring", .int ring), ("a", .int a), ("pointers", .ref lp), ("memory", .ref D)])) x (.ins CR dx [("machine", .ref m), ("hand", .int ring), ("ring", .int ring), ("a", .int a), ("pointers", .ref lp), ("memory", .ref D), ("where", .non)]) q = some (.lst v) ∧ RpAll (upd (upd H6 x (.ins CR dx [("machine", .ref m), ("hand", .int ring), ("ring", .int ring), ("a", .int a), ("pointers", .ref lp), ("memory", .ref D)])) x (.ins CR dx [("machine", .ref m), ("hand", .int ring), ("ring", .int ring), ("a", .int a), ("pointers", .ref lp), ("memory", .ref D), ("where", .non)])) v (ws.map Wd.d) := fun j q ws h1 h2 => let ⟨v, a1, a2⟩ := hra j q ws h1 h2; ⟨v, neL a1, a2.keep tk7⟩
    have rvp7 := ((rvp.keep tk5).keep (Tk.of s6)).keep tk7
    generalize upd (upd H6 x (.ins CR dx [("machine", .ref m), ("hand", .int ring), ("ring", .int ring), ("a", .int a), ("pointers", .ref lp), ("memory", .ref D)])) x (.ins CR dx [("machine", .ref m), ("hand", .int ring), ("ring", .int ring), ("a", .int a), ("pointers", .ref lp), ("memory", .ref D), ("where", .non)]) = H7 at tk7 hx7 sm7 hlp7 hD7 hra7 rvp7
    walk_at "rd"
    intro lc hlc
    have s7a := same_upd (o := .lst []) hlc
    walk_at "rd"
    refine ⟨x, CR, dx, _, rfl, s7a _ _ hx7, T.cl, T.n_calls, by show 7 < 1000; decide, ?_⟩
    rw [putn_calls]
    have nb7 : ∀ {q : Addr} {u : List V}, H7 q = some (.lst u) → (upd (upd H7 lc (.lst [])) x (.ins CR dx [("machine", .ref m), ("hand", .int ring), ("ring", .int ring), ("a", .int a), ("pointers", .ref lp), ("memory", .ref D), ("where", .non), ("calls", .ref lc)])) q = some (.lst u) := fun {q u} h => by rw [upd_ne (ne_of h hx7 (fun z => nomatch z))]; exact s7a _ _ h
    have tk8 : Tk H7 (upd (upd H7 lc (.lst [])) x (.ins CR dx [("machine", .ref m), ("hand", .int ring), ("ring", .int ring), ("a", .int a), ("pointers", .ref lp), ("memory", .ref D), ("where", .non), ("calls", .ref lc)])) := (Tk.of s7a).trans (Tk.ins (s7a _ _ hx7))
    have hx8 : (upd (upd H7 lc (.lst [])) x (.ins CR dx [("machine", .ref m), ("hand", .int ring), ("ring", .int ring), ("a", .int a), ("pointers", .ref lp), ("memory", .ref D), ("where", .non), ("calls", .ref lc)])) x = some (.ins CR dx [("machine", .ref m), ("hand", .int ring), ("ring", .int ring), ("a", .int a), ("pointers", .ref lp), ("memory", .ref D), ("where", .non), ("calls", .ref lc)]) := upd_same
    have hlc8 : (upd (upd H7 lc (.lst [])) x (.ins CR dx [("machine", .ref m), ("hand", .int ring), ("ring", .int ring), ("a", .int a), ("pointers", .ref lp), ("memory", .ref D), ("where", .non), ("calls", .ref lc)])) lc = some (.lst []) := (upd_ne (Ne.symm (ne_of_none hx7 hlc))).trans upd_same
    have sm8 : Same H0 (upd (upd H7 lc (.lst [])) x (.ins CR dx [("machine", .ref m), ("hand", .int ring), ("ring", .int ring), ("a", .int a), ("pointers", .ref lp), ("memory", .ref D), ("where", .non), ("calls", .ref lc)])) := same_put (sm7.trans s7a) nx
    have nlc : H0 lc = none := sm7.free hlc
    generalize (upd (upd H7 lc (.lst [])) x (.ins CR dx [("machine", .ref m), ("hand", .int ring), ("ring", .int ring), ("a", .int a), ("pointers", .ref lp), ("memory", .ref D), ("where", .non), ("calls", .ref lc)])) = H8 at nb7 tk8 hx8 hlc8 sm8
    walk_at "rd"
    intro ls hls
    have s8a := same_upd (o := .lst []) hls
    walk_at "rd"
    refine ⟨x, CR, dx, _, rfl, s8a _ _ hx8, T.cl, T.n_steps, by show 8 < 1000; decide, ?_⟩
    rw [putn_steps]
    have nb8 : ∀ {q : Addr} {u : List V}, H8 q = some (.lst u) → (upd (upd H8 ls (.lst [])) x (.ins CR dx [("machine", .ref m), ("hand", .int ring), ("ring", .int ring), ("a", .int a), ("pointers", .ref lp), ("memory", .ref D), ("where", .non), ("calls", .ref lc), ("steps", .ref ls)])) q = some (.lst u) := fun {q u} h => by rw [upd_ne (ne_of h hx8 (fun z => nomatch z))]; exact s8a _ _ h
    have tk9 : Tk H8 (upd (upd H8 ls (.lst [])) x (.ins CR dx [("machine", .ref m), ("hand", .int ring), ("ring", .int ring), ("a", .int a), ("pointers", .ref lp), ("memory", .ref D), ("where", .non), ("calls", .ref lc), ("steps", .ref ls)])) := (Tk.of s8a).trans (Tk.ins (s8a _ _ hx8))
    have hx9 : (upd (upd H8 ls (.lst [])) x (.ins CR dx [("machine", .ref m), ("hand", .int ring), ("ring", .int ring), ("a", .int a), ("pointers", .ref lp), ("memory", .ref D), ("where", .non), ("calls", .ref lc), ("steps", .ref ls)])) x = some (.ins CR dx [("machine", .ref m), ("hand", .int ring), ("ring", .int ring), ("a", .int a), ("pointers", .ref lp), ("memory", .ref D), ("where", .non), ("calls", .ref lc), ("steps", .ref ls)]) := upd_same
    have hls9 : (upd (upd H8 ls (.lst [])) x (.ins CR dx [("machine", .ref m), ("hand", .int ring), ("ring", .int ring), ("a", .int a), ("pointers", .ref lp), ("memory", .ref D), ("where", .non), ("calls", .ref lc), ("steps", .ref ls)])) ls = some (.lst []) := (upd_ne (Ne.symm (ne_of_none hx8 hls))).trans upd_same
    have sm9 : Same H0 (upd (upd H8 ls (.lst [])) x (.ins CR dx [("machine", .ref m), ("hand", .int ring), ("ring", .int ring), ("a", .int a), ("pointers", .ref lp), ("memory", .ref D), ("where", .non), ("calls", .ref lc), ("steps", .ref ls)])) := same_put (sm8.trans s8a) nx
    have nls : H0 ls = none := sm8.free hls
    generalize (upd (upd H8 ls (.lst [])) x (.ins CR dx [("machine", .ref m), ("hand", .int ring), ("ring", .int ring), ("a", .int a), ("pointers", .ref lp), ("memory", .ref D), ("where", .non), ("calls", .ref lc), ("steps", .ref ls)])) = H9 at nb8 tk9 hx9 hls9 sm9
    walk_at "rd"
    intro lt hlt
    have s9a := same_upd (o := .lst []) hlt
    walk_at "rd"
    refine ⟨x, CR, dx, _, rfl, s9a _ _ hx9, T.cl, T.n_touches, by show 9 < 1000; decide, ?_⟩
    rw [putn_touches]
    have nb9 : ∀ {q : Addr} {u : List V}, H9 q = some (.lst u) → (upd (upd H9 lt (.lst [])) x (.ins CR dx [("machine", .ref m), ("hand", .int ring), ("ring", .int ring), ("a", .int a), ("pointers", .ref lp), ("memory", .ref D), ("where", .non), ("calls", .ref lc), ("steps", .ref ls), ("touches", .ref lt)])) q = some (.lst u) := fun {q u} h => by rw [upd_ne (ne_of h hx9 (fun z => nomatch z))]; exact s9a _ _ h
    have tk10 : Tk H9 (upd (upd H9 lt (.lst [])) x (.ins CR dx [("machine", .ref m), ("hand", .int ring), ("ring", .int ring), ("a", .int a), ("pointers", .ref lp), ("memory", .ref D), ("where", .non), ("calls", .ref lc), ("steps", .ref ls), ("touches", .ref lt)])) := (Tk.of s9a).trans (Tk.ins (s9a _ _ hx9))
    have hx10 : (upd (upd H9 lt (.lst [])) x (.ins CR dx [("machine", .ref m), ("hand", .int ring), ("ring", .int ring), ("a", .int a), ("pointers", .ref lp), ("memory", .ref D), ("where", .non), ("calls", .ref lc), ("steps", .ref ls), ("touches", .ref lt)])) x = some (.ins CR dx [("machine", .ref m), ("hand", .int ring), ("ring", .int ring), ("a", .int a), ("pointers", .ref lp), ("memory", .ref D), ("where", .non), ("calls", .ref lc), ("steps", .ref ls), ("touches", .ref lt)]) := upd_same
    have hlt10 : (upd (upd H9 lt (.lst [])) x (.ins CR dx [("machine", .ref m), ("hand", .int ring), ("ring", .int ring), ("a", .int a), ("pointers", .ref lp), ("memory", .ref D), ("where", .non), ("calls", .ref lc), ("steps", .ref ls), ("touches", .ref lt)])) lt = some (.lst []) := (upd_ne (Ne.symm (ne_of_none hx9 hlt))).trans upd_same
    have sm10 : Same H0 (upd (upd H9 lt (.lst [])) x (.ins CR dx [("machine", .ref m), ("hand", .int ring), ("ring", .int ring), ("a", .int a), ("pointers", .ref lp), ("memory", .ref D), ("where", .non), ("calls", .ref lc), ("steps", .ref ls), ("touches", .ref lt)])) := same_put (sm9.trans s9a) nx
    have nlt : H0 lt = none := sm9.free hlt
    generalize (upd (upd H9 lt (.lst [])) x (.ins CR dx [("machine", .ref m), ("hand", .int ring), ("ring", .int ring), ("a", .int a), ("pointers", .ref lp), ("memory", .ref D), ("where", .non), ("calls", .ref lc), ("steps", .ref ls), ("touches", .ref lt)])) = H10 at nb9 tk10 hx10 hlt10 sm10
    walk_at "rd"
    have nlD : H0 D = none := sm5.free hD
    have nq : ∀ q ∈ as, H0 q = none := fun q hq => sm5.free (fra q hq).1
    have hq7 : ∀ q ∈ as, ∃ v, H7 q = some (.lst v) := fun q hq => by
      obtain ⟨j, hj, ej⟩ := List.getElem_of_mem hq
      obtain ⟨v, h1, _⟩ := hra7 j q _ (by rw [List.getElem?_eq_getElem hj, ej]) (List.getElem?_eq_getElem (show j < me.length by omega))
      exact ⟨v, h1⟩
    have tkE := (tk8.trans tk9).trans tk10
    refine k _ ⟨⟨dx, lp, D, lc, ls, lt, as, .non, ⟨hx10, ⟨vp, nb9 (nb8 (nb7 hlp7)), rvp7.keep tkE⟩, nb9 (nb8 (nb7 hD7)), by show as.length = me.length; omega, fun j q ws h1 h2 => let ⟨v, a1, a2⟩ := hra7 j q ws h1 h2; ⟨v, nb9 (nb8 (nb7 a1)), a2.keep tkE⟩, .non, ⟨[], nb9 (nb8 hlc8), .nil⟩, ⟨[], nb9 hls9, .nil⟩, ⟨[], hlt10, .nil⟩, ?_⟩, fun q hq => ?_⟩, nx, sm10⟩ ?_
    · simp only [List.nodup_cons, List.mem_cons, not_or]
      refine ⟨⟨ne_of_none hlp5 hD, ne_of_none hlp7 hlc, ne_of_none (nb7 hlp7) hls, ne_of_none (nb8 (nb7 hlp7)) hlt, fun z => ?_⟩, ⟨ne_of_none hD7 hlc, ne_of_none (nb7 hD7) hls, ne_of_none (nb8 (nb7 hD7)) hlt, fun z => (fra D z).2 rfl⟩, ⟨ne_of_none hlc8 hls, ne_of_none (nb8 hlc8) hlt, fun z => ?_⟩, ⟨ne_of_none hls9 hlt, fun z => ?_⟩, fun z => ?_, nda⟩
      · have := (fra lp z).1
        rw [hlp5] at this
        cases this
      · obtain ⟨v, h⟩ := hq7 lc z
        rw [hlc] at h
        cases h
      · obtain ⟨v, h⟩ := hq7 ls z
        rw [nb7 h] at hls
        cases hls
      · obtain ⟨v, h⟩ := hq7 lt z
        rw [nb8 (nb7 h)] at hlt
        cases hlt
    · simp only [List.mem_cons] at hq
      rcases hq with rfl | rfl | rfl | rfl | rfl | hq
      · exact nlp
      · exact nlD
      · exact nlc
      · exact nls
      · exact nlt
      · exact nq q hq
    · exact (tk5.trans ((Tk.of s6).trans tk7)).trans tkE
end
open PySem PySem.Spec L2
section
variable {P : Program} {w : World} {K : PySem.W.Frag} {mg : Str → Option Value} {base : Heap}
def fnOf (op : Str) : List Sg → Int → Rn → List Int → Rn × Option Str :=
  if op = "set" then fun _ b s ns => rSet b s (one ns)
  else if op = "add" then fun _ b s ns => rAdd b s (one ns)
  else if op = "load" then fun xs _ s ns => rLoad xs s (one ns) (two ns)
  else if op = "store" then fun xs _ s ns => rStore xs s (one ns) (two ns)
  else if op = "fetch" then fun xs _ s ns => rFetch xs s (one ns) (two ns) (three ns)
  else if op = "keep" then fun xs _ s ns => rKeep xs s (one ns) (two ns) (three ns)
  else if op = "aim" then fun _ _ s ns => rAim s (one ns) (two ns) (three ns)
  else if op = "move" then fun _ _ s ns => rMove s (one ns) (two ns) (three ns)
  else if op = "zero" then fun _ _ s ns => rZero s (one ns)
  else if op = "go" then fun _ _ s ns => rGo s (one ns)
  else if op = "call" then fun xs _ s ns => rCall xs s (one ns)
  else fun _ _ s _ => rRet s
def okOf (op : Str) : List Sg → List Int → Prop :=
  if op = "set" then ok1
  else if op = "add" then ok1
  else if op = "load" then okP2
  else if op = "store" then okP2
  else if op = "fetch" then fun _ ns => ∃ q p w, ns = [q, p, w] ∧ 0 ≤ q ∧ q < 4 ∧ 0 ≤ p ∧ p < 4
  else if op = "keep" then fun _ ns => ∃ q p w, ns = [q, p, w] ∧ 0 ≤ q ∧ q < 4 ∧ 0 ≤ p ∧ p < 4
  else if op = "aim" then fun xs ns => ∃ q g w, ns = [q, g, w] ∧ 0 ≤ q ∧ q < 4 ∧ 0 ≤ g ∧ g < (xs.length : Int)
  else if op = "move" then fun _ ns => ∃ q p n, ns = [q, p, n] ∧ 0 ≤ q ∧ q < 4 ∧ 0 ≤ p ∧ p < 4
  else if op = "zero" then ok1
  else if op = "go" then ok1
  else if op = "call" then fun _ ns => ∃ p, ns = [p] ∧ 0 ≤ p ∧ p < 4
  else fun _ ns => ns = []
/-- a def of the table, and what it promises -/
def GDo (C CR CF : Addr) (ops : List Str) (af : Str → Addr) (f : Addr) (sp : Sp) : Prop := ∃ op ∈ ops, f = af op ∧ sp = spDo C CR CF (fnOf op) (okOf op)
def spAct (C CR CF : Addr) (ops : List Str) : Sp := fun vs H Q E => ∃ (H0 : Hp) (x m : Addr) (us : List V) (xs : List Sg) (b hand : Int) (s : Rn) (v : V) (op : Str) (ns : List Int), vs = [.ref x, v] ∧ Mch C H0 m us xs b ∧ RunAt CR H0 H x m hand s ∧ WF xs s ∧ Rp H v (.tuple (.str op :: ns.map PyData.int)) ∧ op ∈ ops ∧ okOf op xs ns ∧ RunEnd CR CF Q E H0 H x m hand (fnOf op xs b s ns)
theorem ok_act {f C CR CF : Addr} {fd : FuncData} {ops : List Str} {af : Str → Addr} (F : Fun K "act" "act" s_act f fd) (hm : mg "act" = some (.ref f)) (GA : GAct K w mg af) (hops : ∀ z ∈ ops, z ∈ actOps) (HA : ∀ f sp, GDo C CR CF ops af f sp → HeldX P w K mg base 6 f sp) : CalN P w K mg base "act" 7 ["run", "row"] (spAct C CR CF ops) := by
  refine ⟨f, fd, hm, F.kp, F.binds (ps := ["run", "row"]) fun _ _ _ _ _ _ us hl => match us, hl with | [_, _], _ => rfl, ?_⟩
  refine Fun.okN F sc_act (fun vs H Q E h => ?_) (fun cdv A outer s H vs Q E hr h => ?_)
  · obtain ⟨H0, x, m, us, xs, b, hand, s, v, op, ns, rfl, _⟩ := h
    rfl
  · obtain ⟨H0, x, m, us, xs, b, hand, s, v, op, ns, rfl, Mc, R, wf, rv, ho, hk, k⟩ := h
    refine ⟨_, (pss_cons (ps_set (i := 2) sc_act.nd rfl (Or.inl rfl) (pe_ix (r := rIxD K w) ix_dK (pe_act GA rfl) (pe_ix (r := rIxT K) ix_tup (pv 1) pe_int (fun _ _ => rfl)) (fun _ _ => rfl)))
 (pss_cons (ps_set (i := 3) sc_act.nd rfl (Or.inl rfl) (pe_slice (r := rSlT K) sl_tup (pv 1) (po_some pe_int) po_none))
 (pss_one (ps_expr (pe_callAX (i := 2) (E := E) HA (hr.mono (by omega)) rfl (Or.inl rfl) (L2N.takes_of rfl rfl rfl rfl) (pa_cons (pv 0) (StX.pa_star (pv 3) pa_nil))))))), ?_⟩
    obtain ⟨p, vs, rfl, hp, ha⟩ := rv.tup_inv
    obtain ⟨y0, yr, rfl, z0, ha1⟩ := ha.cons_inv
    have e0 := z0.str_inv; subst e0
    have e1 := RpAll.ints_inv ha1
    subst e1
    walk_at "rds"
    intro a hd
    walk_at "rd"
    refine ⟨a, op, .ref (af op), rfl, rfl, hd op (hops op ho), ?_⟩
    walk_at "rd"
    refine ⟨1, rfl, ?_⟩
    refine rd_nopart (rd_cut1 hp fun q hq => ?_)
    have s1 := same_upd (o := .tup (ns.map V.int)) hq
    walk_at "rd"
    refine rd_callAX rfl ⟨op, ho, rfl, rfl⟩ ?_
    walk_at "rd"
    (try refine rd_star ?_)
    walk_at "rd"
    refine ⟨q, ns.map V.int, rfl, .inl (SqT.of upd_same), ?_⟩
    walk_at "rd"
    rw [List.append_nil]
    refine ⟨H0, x, m, us, xs, b, hand, s, ns, rfl, Mc, R.same s1, wf, hk, ?_⟩
    cases e : fnOf op xs b s ns with
    | mk s' o =>
      rw [e] at k
      cases o with
      | none => exact fun H' R' tk' => k H' R' ((Tk.of s1).trans tk')
      | some c => exact fun d H' hd h0 R' tk' => k d H' hd h0 R' ((Tk.of s1).trans tk')
end
open PySem PySem.Spec L2
section
variable {P : Program} {w : World} {K : PySem.W.Frag} {mg : Str → Option Value} {base : Heap}
theorem hot_forget {f CR : Addr} {fd : FuncData} (T : RCl K mg CR) (F : Fun K "forget" "Run.forget" s_Run_forget f fd) (G_POINTERS : GI mg "POINTERS" 4) : L2H.FnH P w K mg base CX0 1 f fd ["self"] (spForget CR) := by
  refine Fun.okH F sc_Run_forget (fun vs H Q E h => ?_) (fun cdv A outer s H vs Q E p ht hr h => ?_)
  · obtain ⟨H0, x, m, hand, s, rfl, _⟩ := h
    rfl
  · obtain ⟨H0, x, m, hand, s, rfl, R, k⟩ := h
    refine ⟨_, (pss_cons (ps_fldK (K := K) (pv 0) pe_int rfl)
 (pss_one (ps_fldK (K := K) (pv 0) (pe_op op_rep (pe_lst (pa_cons pe_non pa_nil)) (pe_gi G_POINTERS rfl)) rfl))), ?_⟩
    obtain ⟨dx, lp, lm, lc, ls, lt, as, vw, r, n⟩ := R.ex
    walk_at "rds"
    refine ⟨x, CR, dx, _, rfl, r.hx, T.cl, T.n_a, by show 10 < 1000; decide, ?_⟩
    have r1 := r.fld (s' := { s with a := 0 }) _ (put_a (v3 := .int s.a)) rfl rfl rfl rfl rfl r.hw
    have sm1 : Same H0 _ := same_put (o := .ins CR dx (putF "a" (.int 0) (rF (.ref m) (.int hand) (.int s.ring) (.int s.a) (.ref lp) (.ref lm) vw (.ref lc) (.ref ls) (.ref lt)))) R.sm R.nx
    have tk1 := Tk.ins (o := .ins CR dx (putF "a" (.int 0) (rF (.ref m) (.int hand) (.int s.ring) (.int s.a) (.ref lp) (.ref lm) vw (.ref lc) (.ref ls) (.ref lt)))) r.hx
    have xk1 : ∀ b fs, H b = some (.xd fs) → upd H x (.ins CR dx (putF "a" (.int 0) (rF (.ref m) (.int hand) (.int s.ring) (.int s.a) (.ref lp) (.ref lm) vw (.ref lc) (.ref ls) (.ref lt)))) b = some (.xd fs) := fun b fs h => by rw [upd_ne (ne_of h r.hx (fun z => nomatch z))]; exact h
    generalize upd H x (.ins CR dx (putF "a" (.int 0) (rF (.ref m) (.int hand) (.int s.ring) (.int s.a) (.ref lp) (.ref lm) vw (.ref lc) (.ref ls) (.ref lt)))) = H1 at r1 sm1 tk1 xk1
    walk_at "rd"
    intro q1 hq1
    have s2 := same_upd (o := .lst [.non]) hq1
    walk_at "rd"
    refine ⟨q1, 4, _, rfl, rfl, upd_same, by decide, by decide, by decide, fun q2 hq2 => ?_⟩
    have s3 := s2.trans (same_upd (o := .lst (List.replicate (4 : Int).toNat [V.non]).flatten) hq2)
    have hq2' : H1 q2 = none := s2.free hq2
    obtain ⟨f1, f2, f3, f4, f5⟩ := run_free (H0 := H0) r1 hq2'
    have r3 := r1.same s3
    have eL : upd (upd H1 q1 (.lst [.non])) q2 (.lst (List.replicate (4 : Int).toNat [V.non]).flatten) q2 = some (.lst [.non, .non, .non, .non]) := upd_same
    walk_at "rd"
    refine ⟨x, CR, dx, _, rfl, r3.hx, T.cl, T.n_pointers, by show 10 < 1000; decide, ?_⟩
    walk_at "rd"
    have r4 := r3.newP (pt := [none, none, none, none]) eL (.cons .non (.cons .non (.cons .non (.cons .non .nil)))) f1 f2 f3 f4 f5 _ (put_pointers (v4 := .ref lp))
    refine k _ ⟨⟨dx, q2, lm, lc, ls, lt, as, vw, r4, fun a ha => ?_⟩, R.nx, same_put (sm1.trans s3) R.nx⟩ ((tk1.trans (Tk.of s3)).trans (Tk.ins r3.hx)) (fun b fs h => by rw [upd_ne (ne_of (s3 _ _ (xk1 b fs h)) r3.hx (fun z => nomatch z))]; exact s3 _ _ (xk1 b fs h))
    rcases List.mem_cons.mp ha with rfl | ha
    · exact sm1.free hq2'
    · exact n a (List.mem_cons_of_mem _ ha)
/-- a row of the machine -/
def rowAt (xs : List Sg) (g p : Int) : Rw := (sgAt xs g).rs.getD p.toNat ⟨"return", []⟩
def Rn.stepTo (s : Rn) (g p : Int) : Rn := { s with st := s.st ++ [(s.ring, g, p, (s.ca.length : Int))], wh := some (g, p + 1) }
def goR (xs : List Sg) (b : Int) : Nat → Rn → Rn × Option Str
  | 0, s => match s.wh with
    | none => (s, none)
    | some (g, p) => if 0 ≤ p ∧ p < ((sgAt xs g).rs.length : Int) then (s, some "long") else (s, some "row")
  | n + 1, s => match s.wh with
    | none => (s, none)
    | some (g, p) => if 0 ≤ p ∧ p < ((sgAt xs g).rs.length : Int) then (match fnOf (rowAt xs g p).op xs b (s.stepTo g p) (rowAt xs g p).ns with
      | (s', none) => goR xs b n s'
      | (s', some c) => (s', some c)) else (s, some "row")
/-- what the rows that run on ask -/
def OnPre (ops : List Str) (xs : List Sg) (b : Int) (n : Nat) (s : Rn) : Prop := s.wh = none ∨ ((∀ z ∈ actOps, z ∈ ops) ∧ WF xs s ∧ s.st = [] ∧ s.to.length ≤ 1 ∧ ∃ n0, n0 ≤ 800 ∧ (n = n0 ∨ (n0 ≤ n ∧ (goR xs b n0 s).2 ≠ some ("long" : Str))))
def spActOn (C CR CF : Addr) (ops : List Str) : Sp := fun vs H Q E => ∃ (H0 : Hp) (x m : Addr) (us : List V) (xs : List Sg) (b hand : Int) (s : Rn) (most : Int), vs = [.ref x, .int most] ∧ Mch C H0 m us xs b ∧ RunAt CR H0 H x m hand s ∧ OnPre ops xs b most.toNat s ∧ RunEnd CR CF Q E H0 H x m hand (goR xs b most.toNat s)
def Rn.lost (s : Rn) : Rn := { s with a := 0, pt := [none, none, none, none] }
def deedR (xs : List Sg) (b : Int) (n : Nat) (s : Rn) (op : Str) (ns : List Int) : Rn × Option Str :=
  match fnOf op xs b s ns with
  | (s', some c) => (s'.lost, some c)
  | (s', none) => match goR xs b n s' with
    | (s2, none) => (s2, none)
    | (s2, some c) => (s2.lost, some c)
def toldD : Option Str → PyData
  | none => .tuple [.str "done"]
  | some c => .tuple [.str "fault", .str c]
def spDeed (C CR CF : Addr) (ops : List Str) : Sp := fun vs H Q _ => ∃ (H0 : Hp) (x m : Addr) (us : List V) (xs : List Sg) (b hand : Int) (s : Rn) (v : V) (op : Str) (ns : List Int) (most : Int), vs = [.ref x, v, .int most] ∧ Mch C H0 m us xs b ∧ RunAt CR H0 H x m hand s ∧ WF xs s ∧ Rp H v (.tuple (.str op :: ns.map PyData.int)) ∧ op ∈ ops ∧ okOf op xs ns ∧
  (∀ s', fnOf op xs b s ns = (s', none) → OnPre ops xs b most.toNat s') ∧ ∀ (u : V) (H' : Hp), RunAt CR H0 H' x m hand (deedR xs b most.toNat s op ns).1 → Rp H' u (toldD (deedR xs b most.toNat s op ns).2) → Tk H H' → Q u H'
theorem ok_deed {f C CR CF ff : Addr} {fd ffd : FuncData} {ops : List Str} (F : Fun K "do_deed" "do_deed" s_do_deed f fd) (hm : mg "do_deed" = some (.ref f)) (T : RCl K mg CR) (Fc : FltC P w K mg base CF) (hxm : PySem.W.exmOne K (.ref CF) (.ref CF) = some true)
    (C_act : CalN P w K mg base "act" 7 ["run", "row"] (spAct C CR CF ops)) (C_act_on : CalN P w K mg base "act_on" 8 ["run", "most"] (spActOn C CR CF ops)) (Mf : Meth K CR "forget" ff) (bf : Binds K ffd ["self"] []) (hF : L2H.FnH P w K mg base CX0 1 ff ffd ["self"] (spForget CR)) : Cal P w K mg base "do_deed" 9 ["run", "deed", "most"] (spDeed C CR CF ops) := by
  refine ⟨f, fd, hm, F.kp, F.binds (ps := ["run", "deed", "most"]) fun _ _ _ _ _ _ us hl => match us, hl with | [_, _, _], _ => rfl, ?_⟩
  refine F.ok sc_do_deed (fun vs H Q E h => ?_) (fun cdv A outer s H vs Q E hr h => ?_)
  · obtain ⟨H0, x, m, us, xs, b, hand, s, v, op, ns, most, rfl, _⟩ := h
    rfl
  · obtain ⟨H0, x, m, us, xs, b, hand, s, v, op, ns, most, rfl, Mc, R, wf, rv, ho, hk, hpre, k⟩ := h
    refine ⟨_, (pss_cons (L2N.ps_try_as (i := 3) rfl rfl sc_do_deed.nd rfl rfl ⟨rfl, by decide, .inl Fc.mgx⟩ takes0N (fun W pn xe tk _ => (pss_cons (ps_expr (pe_calNS C_act tk (hr.mono (by omega)) rfl (pa_cons (pv 0) (pa_cons (pv 1) pa_nil))))
 (pss_one (ps_expr (pe_calNS C_act_on tk (hr.mono (by omega)) rfl (pa_cons (pv 0) (pa_cons (pv 2) pa_nil))))))) (fun a oe cls d pn hz hf => (pss_cons (ps_expr (pe_methH0 (E := fun _ _ _ _ => False) (pv 0) T.cl Mf hF ⟨(Room.mono (j := 1) hr (by omega)).dp, (Room.mono (j := 1) hr (by omega)).un⟩ (hf.elim fun vs4 hd4 => ⟨(a, oe), ⟨rfl, vs4, hd4, hz.2.2 vs4 hd4⟩, List.mem_cons_self⟩) bf (fun _ _ _ _ _ _ _ h => h.elim)))
 (pss_one (ps_ret (pe_tup (pa_cons pe_str (pa_cons (pe_xf Fc.xf Fc.wc hz.zc hf (pv 3)) pa_nil))))))))
 (pss_one (ps_ret (pe_tup (pa_cons pe_str pa_nil))))), ?_⟩
    walk_at "rds"
    refine ⟨H0, x, m, us, xs, b, hand, s, v, op, ns, rfl, Mc, R, wf, rv, ho, hk, ?_⟩
    cases e : fnOf op xs b s ns with
    | mk s1 o =>
      cases o with
      | some c =>
        intro d H1 hd hd0 R1 tk1
        have ed : deedR xs b most.toNat s op ns = (s1.lost, some c) := by unfold deedR; rw [e]
        refine ⟨true, hxm, fun _ ae hae => ?_, fun z => nomatch z⟩
        obtain ⟨dx1, lp1, lm1, lc1, ls1, lt1, as1, vw1, r1, n1⟩ := R1.ex
        walk_at "rd"
        refine rd_methH ?_
        walk_at "rd"
        refine ⟨x, dx1, _, rfl, r1.hx, rF_no_forget, ?_⟩
        walk_at "rd"
        refine ⟨H0, x, m, hand, s1, rfl, R1, fun H2 R2 tk2 xk2 => ?_⟩
        walk_at "rd"
        refine ⟨_, rfl, rfl, rfl, d, _, _, rfl, xk2 _ _ hd, rfl, ?_⟩
        walk_at "rd"
        intro q hq
        have s3 := same_upd (o := .tup [.str "fault", .str c]) hq
        rw [ed] at k
        exact k _ _ (R2.same s3) (.tup upd_same (.cons (.str _) (.cons (.str _) .nil))) ((tk1.trans tk2).trans (Tk.of s3))
      | none =>
        intro H3 R3 tk3
        walk_at "rd"
        refine ⟨H0, x, m, us, xs, b, hand, s1, most, rfl, Mc, R3, hpre s1 e, ?_⟩
        cases e2 : goR xs b most.toNat s1 with
        | mk s2 o =>
          cases o with
          | some c =>
            intro d H1 hd hd0 R1 tk1
            replace tk1 := tk3.trans tk1
            have ed : deedR xs b most.toNat s op ns = (s2.lost, some c) := by unfold deedR; rw [e]; dsimp only; rw [e2]
            refine ⟨true, hxm, fun _ ae hae => ?_, fun z => nomatch z⟩
            obtain ⟨dx1, lp1, lm1, lc1, ls1, lt1, as1, vw1, r1, n1⟩ := R1.ex
            walk_at "rd"
            refine rd_methH ?_
            walk_at "rd"
            refine ⟨x, dx1, _, rfl, r1.hx, rF_no_forget, ?_⟩
            walk_at "rd"
            refine ⟨H0, x, m, hand, s2, rfl, R1, fun H2 R2 tk2 xk2 => ?_⟩
            walk_at "rd"
            refine ⟨_, rfl, rfl, rfl, d, _, _, rfl, xk2 _ _ hd, rfl, ?_⟩
            walk_at "rd"
            intro q hq
            have s3 := same_upd (o := .tup [.str "fault", .str c]) hq
            rw [ed] at k
            exact k _ _ (R2.same s3) (.tup upd_same (.cons (.str _) (.cons (.str _) .nil))) ((tk1.trans tk2).trans (Tk.of s3))
          | none =>
            intro H1 R1 tk1
            have ed : deedR xs b most.toNat s op ns = (s2, none) := by unfold deedR; rw [e]; dsimp only; rw [e2]
            walk_at "rd"
            intro q hq
            have s3 := same_upd (o := .tup [.str "done"]) hq
            rw [ed] at k
            exact k _ _ (R1.same s3) (.tup upd_same (.cons (.str _) .nil)) ((tk3.trans tk1).trans (Tk.of s3))
end
open PySem PySem.Spec L2
section
variable {P : Program} {w : World} {K : PySem.W.Frag} {mg : Str → Option Value} {base : Heap}
theorem fn_set : fnOf "set" = (fun _ b s ns => rSet b s (one ns)) := by unfold fnOf;  rw [if_pos rfl]
theorem ko_set : okOf "set" = (ok1) := by unfold okOf;  rw [if_pos rfl]
theorem fn_add : fnOf "add" = (fun _ b s ns => rAdd b s (one ns)) := by unfold fnOf; rw [if_neg (by decide +kernel)]; rw [if_pos rfl]
theorem ko_add : okOf "add" = (ok1) := by unfold okOf; rw [if_neg (by decide +kernel)]; rw [if_pos rfl]
theorem fn_load : fnOf "load" = (fun xs _ s ns => rLoad xs s (one ns) (two ns)) := by unfold fnOf; rw [if_neg (by decide +kernel)]; rw [if_neg (by decide +kernel)]; rw [if_pos rfl]
theorem ko_load : okOf "load" = (okP2) := by unfold okOf; rw [if_neg (by decide +kernel)]; rw [if_neg (by decide +kernel)]; rw [if_pos rfl]
theorem fn_store : fnOf "store" = (fun xs _ s ns => rStore xs s (one ns) (two ns)) := by unfold fnOf; rw [if_neg (by decide +kernel)]; rw [if_neg (by decide +kernel)]; rw [if_neg (by decide +kernel)]; rw [if_pos rfl]
theorem ko_store : okOf "store" = (okP2) := by unfold okOf; rw [if_neg (by decide +kernel)]; rw [if_neg (by decide +kernel)]; rw [if_neg (by decide +kernel)]; rw [if_pos rfl]
theorem fn_fetch : fnOf "fetch" = (fun xs _ s ns => rFetch xs s (one ns) (two ns) (three ns)) := by unfold fnOf; rw [if_neg (by decide +kernel)]; rw [if_neg (by decide +kernel)]; rw [if_neg (by decide +kernel)]; rw [if_neg (by decide +kernel)]; rw [if_pos rfl]
theorem ko_fetch : okOf "fetch" = (fun _ ns => ∃ q p w, ns = [q, p, w] ∧ 0 ≤ q ∧ q < 4 ∧ 0 ≤ p ∧ p < 4) := by unfold okOf; rw [if_neg (by decide +kernel)]; rw [if_neg (by decide +kernel)]; rw [if_neg (by decide +kernel)]; rw [if_neg (by decide +kernel)]; rw [if_pos rfl]
theorem fn_keep : fnOf "keep" = (fun xs _ s ns => rKeep xs s (one ns) (two ns) (three ns)) := by unfold fnOf; rw [if_neg (by decide +kernel)]; rw [if_neg (by decide +kernel)]; rw [if_neg (by decide +kernel)]; rw [if_neg (by decide +kernel)]; rw [if_neg (by decide +kernel)]; rw [if_pos rfl]
theorem ko_keep : okOf "keep" = (fun _ ns => ∃ q p w, ns = [q, p, w] ∧ 0 ≤ q ∧ q < 4 ∧ 0 ≤ p ∧ p < 4) := by unfold okOf; rw [if_neg (by decide +kernel)]; rw [if_neg (by decide +kernel)]; rw [if_neg (by decide +kernel)]; rw [if_neg (by decide +kernel)]; rw [if_neg (by decide +kernel)]; rw [if_pos rfl]
theorem fn_aim : fnOf "aim" = (fun _ _ s ns => rAim s (one ns) (two ns) (three ns)) := by unfold fnOf; rw [if_neg (by decide +kernel)]; rw [if_neg (by decide +kernel)]; rw [if_neg (by decide +kernel)]; rw [if_neg (by decide +kernel)]; rw [if_neg (by decide +kernel)]; rw [if_neg (by decide +kernel)]; rw [if_pos rfl]
theorem ko_aim : okOf "aim" = (fun xs ns => ∃ q g w, ns = [q, g, w] ∧ 0 ≤ q ∧ q < 4 ∧ 0 ≤ g ∧ g < (xs.length : Int)) := by unfold okOf; rw [if_neg (by decide +kernel)]; rw [if_neg (by decide +kernel)]; rw [if_neg (by decide +kernel)]; rw [if_neg (by decide +kernel)]; rw [if_neg (by decide +kernel)]; rw [if_neg (by decide +kernel)]; rw [if_pos rfl]
theorem fn_move : fnOf "move" = (fun _ _ s ns => rMove s (one ns) (two ns) (three ns)) := by unfold fnOf; rw [if_neg (by decide +kernel)]; rw [if_neg (by decide +kernel)]; rw [if_neg (by decide +kernel)]; rw [if_neg (by decide +kernel)]; rw [if_neg (by decide +kernel)]; rw [if_neg (by decide +kernel)]; rw [if_neg (by decide +kernel)]; rw [if_pos rfl]
theorem ko_move : okOf "move" = (fun _ ns => ∃ q p n, ns = [q, p, n] ∧ 0 ≤ q ∧ q < 4 ∧ 0 ≤ p ∧ p < 4) := by unfold okOf; rw [if_neg (by decide +kernel)]; rw [if_neg (by decide +kernel)]; rw [if_neg (by decide +kernel)]; rw [if_neg (by decide +kernel)]; rw [if_neg (by decide +kernel)]; rw [if_neg (by decide +kernel)]; rw [if_neg (by decide +kernel)]; rw [if_pos rfl]
theorem fn_zero : fnOf "zero" = (fun _ _ s ns => rZero s (one ns)) := by unfold fnOf; rw [if_neg (by decide +kernel)]; rw [if_neg (by decide +kernel)]; rw [if_neg (by decide +kernel)]; rw [if_neg (by decide +kernel)]; rw [if_neg (by decide +kernel)]; rw [if_neg (by decide +kernel)]; rw [if_neg (by decide +kernel)]; rw [if_neg (by decide +kernel)]; rw [if_pos rfl]
theorem ko_zero : okOf "zero" = (ok1) := by unfold okOf; rw [if_neg (by decide +kernel)]; rw [if_neg (by decide +kernel)]; rw [if_neg (by decide +kernel)]; rw [if_neg (by decide +kernel)]; rw [if_neg (by decide +kernel)]; rw [if_neg (by decide +kernel)]; rw [if_neg (by decide +kernel)]; rw [if_neg (by decide +kernel)]; rw [if_pos rfl]
theorem fn_go : fnOf "go" = (fun _ _ s ns => rGo s (one ns)) := by unfold fnOf; rw [if_neg (by decide +kernel)]; rw [if_neg (by decide +kernel)]; rw [if_neg (by decide +kernel)]; rw [if_neg (by decide +kernel)]; rw [if_neg (by decide +kernel)]; rw [if_neg (by decide +kernel)]; rw [if_neg (by decide +kernel)]; rw [if_neg (by decide +kernel)]; rw [if_neg (by decide +kernel)]; rw [if_pos rfl]
theorem ko_go : okOf "go" = (ok1) := by unfold okOf; rw [if_neg (by decide +kernel)]; rw [if_neg (by decide +kernel)]; rw [if_neg (by decide +kernel)]; rw [if_neg (by decide +kernel)]; rw [if_neg (by decide +kernel)]; rw [if_neg (by decide +kernel)]; rw [if_neg (by decide +kernel)]; rw [if_neg (by decide +kernel)]; rw [if_neg (by decide +kernel)]; rw [if_pos rfl]
theorem fn_call : fnOf "call" = (fun xs _ s ns => rCall xs s (one ns)) := by unfold fnOf; rw [if_neg (by decide +kernel)]; rw [if_neg (by decide +kernel)]; rw [if_neg (by decide +kernel)]; rw [if_neg (by decide +kernel)]; rw [if_neg (by decide +kernel)]; rw [if_neg (by decide +kernel)]; rw [if_neg (by decide +kernel)]; rw [if_neg (by decide +kernel)]; rw [if_neg (by decide +kernel)]; rw [if_neg (by decide +kernel)]; rw [if_pos rfl]
theorem ko_call : okOf "call" = (fun _ ns => ∃ p, ns = [p] ∧ 0 ≤ p ∧ p < 4) := by unfold okOf; rw [if_neg (by decide +kernel)]; rw [if_neg (by decide +kernel)]; rw [if_neg (by decide +kernel)]; rw [if_neg (by decide +kernel)]; rw [if_neg (by decide +kernel)]; rw [if_neg (by decide +kernel)]; rw [if_neg (by decide +kernel)]; rw [if_neg (by decide +kernel)]; rw [if_neg (by decide +kernel)]; rw [if_neg (by decide +kernel)]; rw [if_pos rfl]
theorem fn_return : fnOf "return" = (fun _ _ s _ => rRet s) := by unfold fnOf; rw [if_neg (by decide +kernel)]; rw [if_neg (by decide +kernel)]; rw [if_neg (by decide +kernel)]; rw [if_neg (by decide +kernel)]; rw [if_neg (by decide +kernel)]; rw [if_neg (by decide +kernel)]; rw [if_neg (by decide +kernel)]; rw [if_neg (by decide +kernel)]; rw [if_neg (by decide +kernel)]; rw [if_neg (by decide +kernel)]; rw [if_neg (by decide +kernel)]
theorem ko_return : okOf "return" = (fun _ ns => ns = []) := by unfold okOf; rw [if_neg (by decide +kernel)]; rw [if_neg (by decide +kernel)]; rw [if_neg (by decide +kernel)]; rw [if_neg (by decide +kernel)]; rw [if_neg (by decide +kernel)]; rw [if_neg (by decide +kernel)]; rw [if_neg (by decide +kernel)]; rw [if_neg (by decide +kernel)]; rw [if_neg (by decide +kernel)]; rw [if_neg (by decide +kernel)]; rw [if_neg (by decide +kernel)]
theorem len0 {ns : List Int} (h : ns.length = 0) : ns = [] := List.length_eq_zero_iff.mp h
theorem len1 {ns : List Int} (h : ns.length = 1) : ∃ a, ns = [a] := by
  match ns, h with
  | [a], _ => exact ⟨a, rfl⟩
theorem len2 {ns : List Int} (h : ns.length = 2) : ∃ a b, ns = [a, b] := by
  match ns, h with
  | [a, b], _ => exact ⟨a, b, rfl⟩
theorem len3 {ns : List Int} (h : ns.length = 3) : ∃ a b c, ns = [a, b, c] := by
  match ns, h with
  | [a, b, c], _ => exact ⟨a, b, c, rfl⟩
theorem row_okR {r : Rw} {xs : List Sg} (hf : RwForm r) (h : rowFits r (xs.length : Int) = true) : r.op ∈ actOps ∧ okOf r.op xs r.ns := by
  obtain ⟨op, ns⟩ := r
  obtain ⟨l, e, hl⟩ := hf
  unfold rowFits at h
  dsimp only at e h hl ⊢
  have hm := PySem.mem_of_lookup (show rowForms.lookup op = some l from e)
  unfold rowForms at hm
  simp only [List.mem_cons, Prod.mk.injEq, List.not_mem_nil, or_false] at hm
  rcases hm with ⟨rfl, rfl⟩ | ⟨rfl, rfl⟩ | ⟨rfl, rfl⟩ | ⟨rfl, rfl⟩ | ⟨rfl, rfl⟩ | ⟨rfl, rfl⟩ | ⟨rfl, rfl⟩ | ⟨rfl, rfl⟩ | ⟨rfl, rfl⟩ | ⟨rfl, rfl⟩ | ⟨rfl, rfl⟩ | ⟨rfl, rfl⟩
  · -- set
    refine ⟨by decide +kernel, ?_⟩
    rw [ko_set]
    have hl2 : ns.length = 1 := hl.symm
    obtain ⟨a0, rfl⟩ := len1 hl2
    rw [show formOf "set" = some "n" from e] at h
    have h : fitsNs [110] [a0] (xs.length : Int) = true := h
    simp only [fitsNs, numFits, Bool.and_eq_true, below_iff, if_true, if_false, and_true, reduceIte, Nat.reduceEqDiff, true_and] at h
    exact ⟨a0, rfl⟩
  · -- add
    refine ⟨by decide +kernel, ?_⟩
    rw [ko_add]
    have hl2 : ns.length = 1 := hl.symm
    obtain ⟨a0, rfl⟩ := len1 hl2
    rw [show formOf "add" = some "n" from e] at h
    have h : fitsNs [110] [a0] (xs.length : Int) = true := h
    simp only [fitsNs, numFits, Bool.and_eq_true, below_iff, if_true, if_false, and_true, reduceIte, Nat.reduceEqDiff, true_and] at h
    exact ⟨a0, rfl⟩
  · -- load
    refine ⟨by decide +kernel, ?_⟩
    rw [ko_load]
    have hl2 : ns.length = 2 := hl.symm
    obtain ⟨a0, a1, rfl⟩ := len2 hl2
    rw [show formOf "load" = some "pn" from e] at h
    have h : fitsNs [112, 110] [a0, a1] (xs.length : Int) = true := h
    simp only [fitsNs, numFits, Bool.and_eq_true, below_iff, if_true, if_false, and_true, reduceIte, Nat.reduceEqDiff, true_and] at h
    exact ⟨a0, a1, rfl, h.1, h.2⟩
  · -- store
    refine ⟨by decide +kernel, ?_⟩
    rw [ko_store]
    have hl2 : ns.length = 2 := hl.symm
    obtain ⟨a0, a1, rfl⟩ := len2 hl2
    rw [show formOf "store" = some "pn" from e] at h
    have h : fitsNs [112, 110] [a0, a1] (xs.length : Int) = true := h
    simp only [fitsNs, numFits, Bool.and_eq_true, below_iff, if_true, if_false, and_true, reduceIte, Nat.reduceEqDiff, true_and] at h
    exact ⟨a0, a1, rfl, h.1, h.2⟩
  · -- fetch
    refine ⟨by decide +kernel, ?_⟩
    rw [ko_fetch]
    have hl2 : ns.length = 3 := hl.symm
    obtain ⟨a0, a1, a2, rfl⟩ := len3 hl2
    rw [show formOf "fetch" = some "ppn" from e] at h
    have h : fitsNs [112, 112, 110] [a0, a1, a2] (xs.length : Int) = true := h
    simp only [fitsNs, numFits, Bool.and_eq_true, below_iff, if_true, if_false, and_true, reduceIte, Nat.reduceEqDiff, true_and] at h
    exact ⟨a0, a1, a2, rfl, h.1.1, h.1.2, h.2.1, h.2.2⟩
  · -- keep
    refine ⟨by decide +kernel, ?_⟩
    rw [ko_keep]
    have hl2 : ns.length = 3 := hl.symm
    obtain ⟨a0, a1, a2, rfl⟩ := len3 hl2
    rw [show formOf "keep" = some "ppn" from e] at h
    have h : fitsNs [112, 112, 110] [a0, a1, a2] (xs.length : Int) = true := h
    simp only [fitsNs, numFits, Bool.and_eq_true, below_iff, if_true, if_false, and_true, reduceIte, Nat.reduceEqDiff, true_and] at h
    exact ⟨a0, a1, a2, rfl, h.1.1, h.1.2, h.2.1, h.2.2⟩
  · -- aim
    refine ⟨by decide +kernel, ?_⟩
    rw [ko_aim]
    have hl2 : ns.length = 3 := hl.symm
    obtain ⟨a0, a1, a2, rfl⟩ := len3 hl2
    rw [show formOf "aim" = some "psn" from e] at h
    have h : fitsNs [112, 115, 110] [a0, a1, a2] (xs.length : Int) = true := h
    simp only [fitsNs, numFits, Bool.and_eq_true, below_iff, if_true, if_false, and_true, reduceIte, Nat.reduceEqDiff, true_and] at h
    exact ⟨a0, a1, a2, rfl, h.1.1, h.1.2, h.2.1, h.2.2⟩
  · -- move
    refine ⟨by decide +kernel, ?_⟩
    rw [ko_move]
    have hl2 : ns.length = 3 := hl.symm
    obtain ⟨a0, a1, a2, rfl⟩ := len3 hl2
    rw [show formOf "move" = some "ppn" from e] at h
    have h : fitsNs [112, 112, 110] [a0, a1, a2] (xs.length : Int) = true := h
    simp only [fitsNs, numFits, Bool.and_eq_true, below_iff, if_true, if_false, and_true, reduceIte, Nat.reduceEqDiff, true_and] at h
    exact ⟨a0, a1, a2, rfl, h.1.1, h.1.2, h.2.1, h.2.2⟩
  · -- zero
    refine ⟨by decide +kernel, ?_⟩
    rw [ko_zero]
    have hl2 : ns.length = 1 := hl.symm
    obtain ⟨a0, rfl⟩ := len1 hl2
    rw [show formOf "zero" = some "n" from e] at h
    have h : fitsNs [110] [a0] (xs.length : Int) = true := h
    simp only [fitsNs, numFits, Bool.and_eq_true, below_iff, if_true, if_false, and_true, reduceIte, Nat.reduceEqDiff, true_and] at h
    exact ⟨a0, rfl⟩
  · -- go
    refine ⟨by decide +kernel, ?_⟩
    rw [ko_go]
    have hl2 : ns.length = 1 := hl.symm
    obtain ⟨a0, rfl⟩ := len1 hl2
    rw [show formOf "go" = some "n" from e] at h
    have h : fitsNs [110] [a0] (xs.length : Int) = true := h
    simp only [fitsNs, numFits, Bool.and_eq_true, below_iff, if_true, if_false, and_true, reduceIte, Nat.reduceEqDiff, true_and] at h
    exact ⟨a0, rfl⟩
  · -- call
    refine ⟨by decide +kernel, ?_⟩
    rw [ko_call]
    have hl2 : ns.length = 1 := hl.symm
    obtain ⟨a0, rfl⟩ := len1 hl2
    rw [show formOf "call" = some "p" from e] at h
    have h : fitsNs [112] [a0] (xs.length : Int) = true := h
    simp only [fitsNs, numFits, Bool.and_eq_true, below_iff, if_true, if_false, and_true, reduceIte, Nat.reduceEqDiff, true_and] at h
    exact ⟨a0, rfl, h.1, h.2⟩
  · -- return
    refine ⟨by decide +kernel, ?_⟩
    rw [ko_return]
    have hl2 : ns.length = 0 := hl.symm
    have e0 := len0 hl2
    subst e0
    rfl
end
open PySem PySem.Spec L2
section
variable {P : Program} {w : World} {K : PySem.W.Frag} {mg : Str → Option Value} {base : Heap}
/-- what a row leaves -/
structure Gd (xs : List Sg) (s s' : Rn) : Prop where
  wf : WF xs s'
  st : s'.st = s.st
  to : s'.to.length ≤ s.to.length + 1
theorem wf_a {xs : List Sg} {s : Rn} (w : WF xs s) (n : Int) : WF xs { s with a := n } := ⟨w.pt4, w.ptg, w.me, w.mw, w.wh, w.ca, w.c8, w.s9, w.t9, w.sk⟩
theorem wf_wh {xs : List Sg} {s : Rn} (w : WF xs s) {g p : Int} {z : Int × Int} (h : 0 ≤ g ∧ g < (xs.length : Int)) (e0 : s.wh = some z) : WF xs { s with wh := some (g, p) } := ⟨w.pt4, w.ptg, w.me, w.mw, fun g' p' e => by
  have e' : some (g, p) = some (g', p') := e
  cases e'
  exact h, w.ca, w.c8, w.s9, w.t9, Stk.at (e0 ▸ w.sk)⟩
theorem wf_touch {xs : List Sg} {s : Rn} (w : WF xs s) (t : s.to.length ≤ 1999) (e g p : Int) (l : Str) : WF xs (s.touch e g p l) := ⟨w.pt4, w.ptg, w.me, w.mw, w.wh, w.ca, w.c8, w.s9, by
  show (s.to ++ [(e, g, p, l)]).length ≤ 2000
  rw [List.length_append]
  exact Nat.succ_le_succ t, w.sk⟩
theorem wf_ptr {xs : List Sg} {s : Rn} (w : WF xs s) (q r g p : Int) (h : 0 ≤ g ∧ g < (xs.length : Int) ∧ 0 ≤ p) : WF xs (s.ptrSet q (some (r, g, p))) := ⟨by
  show (s.pt.set _ _).length = 4
  rw [List.length_set]
  exact w.pt4, fun r' g' p' hm => by
    rcases List.mem_or_eq_of_mem_set (show some (r', g', p') ∈ s.pt.set q.toNat (some (r, g, p)) from hm) with h1 | h1
    · exact w.ptg _ _ _ h1
    · cases h1
      exact h, w.me, w.mw, w.wh, w.ca, w.c8, w.s9, w.t9, w.sk⟩
theorem mem_mem {s : Rn} {g : Int} : s.mem g = [] ∨ s.mem g ∈ s.me := by
  unfold Rn.mem
  rw [List.getD_eq_getElem?_getD]
  cases e : s.me[g.toNat]? with
  | none => exact .inl rfl
  | some ws => exact .inr (List.mem_of_getElem? e)
theorem wf_put {xs : List Sg} {s : Rn} (w : WF xs s) (g p : Int) (x : Wd) (h : ∀ r g p, x = .ptr r g p → 0 ≤ g ∧ g < (xs.length : Int) ∧ 0 ≤ p) : WF xs (s.put g p x) := ⟨w.pt4, w.ptg, by
  show (s.me.set _ _).length = _
  rw [List.length_set]
  exact w.me, fun ws hm => by
    rcases List.mem_or_eq_of_mem_set (show ws ∈ s.me.set g.toNat ((s.mem g).set p.toNat x) from hm) with h1 | h1
    · exact w.mw _ h1
    · subst h1
      rcases mem_mem (s := s) (g := g) with h2 | h2
      · rw [h2]
        rw [List.set_nil]
        exact ⟨Nat.zero_le _, fun r g p z => (by simp at z)⟩
      · obtain ⟨a1, a2⟩ := w.mw _ h2
        refine ⟨by rw [List.length_set]; exact a1, fun r g' p' z => ?_⟩
        rcases List.mem_or_eq_of_mem_set z with h3 | h3
        · exact a2 _ _ _ h3
        · exact h _ _ _ h3.symm, w.wh, w.ca, w.c8, w.s9, w.t9, w.sk⟩
theorem wf_enter {xs : List Sg} {s : Rn} (w : WF xs s) (r : Int) (v : Option (Int × Int)) (ca' : List (Int × Option (Int × Int))) (h : ∀ g p, v = some (g, p) → 0 ≤ g ∧ g < (xs.length : Int)) (hc : ∀ c ∈ ca', ∀ g p, c.2 = some (g, p) → 0 ≤ g ∧ g < (xs.length : Int)) (h8 : ca'.length ≤ 8) (hk : Stk v ca') : WF xs (({ s with ca := ca' } : Rn).enter r v) := ⟨by
  show (s.pt.map _).length = 4
  rw [List.length_map]
  exact w.pt4, fun r' g' p' hm => by
    obtain ⟨y, hy, e⟩ := List.mem_map.mp (show some (r', g', p') ∈ s.pt.map (raisedR r) from hm)
    cases y with
    | none => cases e
    | some z =>
      obtain ⟨o, g, p⟩ := z
      cases e
      exact w.ptg _ _ _ hy, w.me, w.mw, fun g p e => h g p e, hc, h8, w.s9, w.t9, hk⟩
theorem read_ok {xs : List Sg} {s s' : Rn} {p w e g : Int} {wd : Wd} (wf : WF xs s) (t : s.to.length ≤ 1999) (p0 : 0 ≤ p) (p4 : p < 4) (h : readR xs s p w = .ok (wd, e, g, s')) : Gd xs s s' ∧ ∀ r g p, wd = .ptr r g p → 0 ≤ g ∧ g < (xs.length : Int) ∧ 0 ≤ p := by
  unfold readR at h
  cases hs : spotR s p w with
  | error c => rw [hs] at h; cases h
  | ok z =>
    obtain ⟨e1, g1, pl⟩ := z
    rw [hs] at h
    dsimp only at h
    obtain ⟨g0, gN, l0, l1⟩ := spot_in wf p0 p4 hs
    by_cases hc : mRead (sgAt xs g1) e1 = true
    · rw [if_pos hc] at h
      cases h
      refine ⟨⟨wf_touch wf t _ _ _ _, rfl, ?_⟩, fun r g2 p2 hw => ?_⟩
      · show (s.to ++ [_]).length ≤ _
        rw [List.length_append]
        exact Nat.le_refl _
      · rcases mem_mem (s := s) (g := g) with h2 | h2
        · rw [h2] at l1
          simp at l1
          omega
        · refine (wf.mw _ h2).2 r g2 p2 ?_
          rw [← hw]
          unfold Rn.wordAt
          rw [List.getD_eq_getElem?_getD, List.getElem?_eq_getElem (by omega)]
          exact List.getElem_mem _
    · rw [if_neg hc] at h
      cases h
theorem write_ok {xs : List Sg} {s s' : Rn} {p w : Int} {wd : Wd} (wf : WF xs s) (t : s.to.length ≤ 1999) (hw : ∀ r g p, wd = .ptr r g p → 0 ≤ g ∧ g < (xs.length : Int) ∧ 0 ≤ p) (h : writeR xs s p w wd = (s', none)) : Gd xs s s' := by
  unfold writeR at h
  cases hs : spotR s p w with
  | error c => rw [hs] at h; cases h
  | ok z =>
    obtain ⟨e1, g1, pl⟩ := z
    rw [hs] at h
    dsimp only at h
    by_cases hc : mWrite (sgAt xs g1) e1 = true
    · rw [if_pos hc] at h
      cases h
      refine ⟨wf_put (wf_touch wf t _ _ _ _) _ _ _ hw, rfl, ?_⟩
      show (s.to ++ [_]).length ≤ _
      rw [List.length_append]
      exact Nat.le_refl _
    · rw [if_neg hc] at h
      cases h
theorem Gd.self {xs : List Sg} {s s' : Rn} (w : WF xs s') (h1 : s'.st = s.st) (h2 : s'.to = s.to) : Gd xs s s' := ⟨w, h1, by rw [h2]; exact Nat.le_succ _⟩
theorem wf_keep {xs : List Sg} {b : Int} {s s' : Rn} {op : Str} {ns : List Int} (wf : WF xs s) (t : s.to.length ≤ 1999) (ho : op ∈ actOps) (hk : okOf op xs ns) (h : fnOf op xs b s ns = (s', none)) : Gd xs s s' := by
  unfold actOps at ho
  simp only [List.mem_cons, List.not_mem_nil, or_false] at ho
  rcases ho with rfl | rfl | rfl | rfl | rfl | rfl | rfl | rfl | rfl | rfl | rfl | rfl
  · rw [fn_set] at h
    cases h
    exact .self (wf_a wf _) rfl rfl
  · rw [fn_add] at h
    cases h
    exact .self (wf_a wf _) rfl rfl
  · rw [fn_load] at h
    rw [ko_load] at hk
    obtain ⟨p, w, rfl, p0, p4⟩ := hk
    replace h : rLoad xs s p w = (s', none) := h
    unfold rLoad at h
    cases hr : readR xs s p w with
    | error c => rw [hr] at h; cases h
    | ok z =>
      obtain ⟨wd, e, g, s1⟩ := z
      obtain ⟨G, _⟩ := read_ok wf t p0 p4 hr
      rw [hr] at h
      cases wd with
      | num n => cases h; exact ⟨wf_a G.wf _, G.st, G.to⟩
      | ptr a1 a2 a3 => cases h
  · rw [fn_store] at h
    rw [ko_store] at hk
    exact write_ok (wd := .num s.a) wf t (fun r g p z => Wd.noConfusion z) h
  · rw [fn_fetch] at h
    rw [ko_fetch] at hk
    obtain ⟨q, p, w, rfl, q0, q4, p0, p4⟩ := hk
    replace h : rFetch xs s q p w = (s', none) := h
    unfold rFetch at h
    cases hr : readR xs s p w with
    | error c => rw [hr] at h; cases h
    | ok z =>
      obtain ⟨wd, e, g, s1⟩ := z
      obtain ⟨G, G2⟩ := read_ok wf t p0 p4 hr
      rw [hr] at h
      cases wd with
      | num n => cases h
      | ptr a1 a2 a3 => cases h; exact ⟨wf_ptr G.wf _ _ _ _ (G2 _ _ _ rfl), G.st, G.to⟩
  · rw [fn_keep] at h
    rw [ko_keep] at hk
    obtain ⟨q, p, w, rfl, q0, q4, p0, p4⟩ := hk
    replace h : rKeep xs s q p w = (s', none) := h
    unfold rKeep at h
    cases e : s.ptr q with
    | none => rw [e] at h; cases h
    | some z =>
      obtain ⟨r1, g1, pl⟩ := z
      rw [e] at h
      refine write_ok wf t (fun r g p z => ?_) h
      cases z
      exact wf.ptg _ _ _ (ptr_mem wf.pt4 q0 q4 e)
  · rw [fn_aim] at h
    rw [ko_aim] at hk
    obtain ⟨q, g, w, rfl, q0, q4, g0, gN⟩ := hk
    replace h : rAim s q g w = (s', none) := h
    unfold rAim at h
    by_cases hw : w < 0
    · rw [if_pos hw] at h; cases h
    · rw [if_neg hw] at h
      cases h
      exact .self (wf_ptr wf _ _ _ _ ⟨g0, gN, by omega⟩) rfl rfl
  · rw [fn_move] at h
    rw [ko_move] at hk
    obtain ⟨q, p, n, rfl, q0, q4, p0, p4⟩ := hk
    replace h : rMove s q p n = (s', none) := h
    unfold rMove at h
    cases e : s.ptr p with
    | none => rw [e] at h; cases h
    | some z =>
      obtain ⟨r1, g1, pl⟩ := z
      rw [e] at h
      dsimp only at h
      obtain ⟨a1, a2, a3⟩ := wf.ptg _ _ _ (ptr_mem wf.pt4 p0 p4 e)
      by_cases hw : pl + n < 0
      · rw [if_pos hw] at h; cases h
      · rw [if_neg hw] at h
        cases h
        exact .self (wf_ptr wf _ _ _ _ ⟨a1, a2, by omega⟩) rfl rfl
  · rw [fn_zero] at h
    replace h : rZero s (one ns) = (s', none) := h
    unfold rZero at h
    cases e : s.wh with
    | none => rw [e] at h; cases h
    | some z =>
      obtain ⟨g1, pl⟩ := z
      rw [e] at h
      dsimp only at h
      by_cases hw : s.a = 0
      · rw [if_pos hw] at h
        cases h
        exact .self (wf_wh wf (wf.wh _ _ e) e) rfl rfl
      · rw [if_neg hw] at h
        cases h
        exact .self wf rfl rfl
  · rw [fn_go] at h
    replace h : rGo s (one ns) = (s', none) := h
    unfold rGo at h
    cases e : s.wh with
    | none => rw [e] at h; cases h
    | some z =>
      obtain ⟨g1, pl⟩ := z
      rw [e] at h
      cases h
      exact .self (wf_wh wf (wf.wh _ _ e) e) rfl rfl
  · rw [fn_call] at h
    rw [ko_call] at hk
    obtain ⟨p, rfl, p0, p4⟩ := hk
    replace h : rCall xs s p = (s', none) := h
    unfold rCall at h
    cases e : s.ptr p with
    | none => rw [e] at h; cases h
    | some z =>
      obtain ⟨r1, g1, pl⟩ := z
      rw [e] at h
      dsimp only at h
      obtain ⟨a1, a2, a3⟩ := wf.ptg _ _ _ (ptr_mem wf.pt4 p0 p4 e)
      cases e2 : enteredR (sgAt xs g1) pl (mx s.ring r1) with
      | error c => rw [e2] at h; cases h
      | ok e3 =>
        rw [e2] at h
        dsimp only at h
        by_cases h8 : 8 ≤ s.ca.length
        · rw [if_pos h8] at h; cases h
        · rw [if_neg h8] at h
          cases h
          refine .self (wf_enter wf _ _ (s.ca ++ [(s.ring, s.wh)]) (fun g p z => ?_) (fun c hc g p ec => ?_) ?_ (wf.sk.push _ _)) rfl rfl
          · cases z
            exact ⟨a1, a2⟩
          · rcases List.mem_append.mp hc with h1 | h1
            · exact wf.ca c h1 g p ec
            · rw [List.mem_singleton.mp h1] at ec
              exact wf.wh g p ec
          · rw [List.length_append]
            show s.ca.length + 1 ≤ 8
            omega
  · rw [fn_return] at h
    replace h : rRet s = (s', none) := h
    unfold rRet at h
    cases e : s.wh with
    | none => rw [e] at h; cases h
    | some z =>
      obtain ⟨g1, pl⟩ := z
      rw [e] at h
      dsimp only at h
      cases e2 : s.ca.getLast? with
      | none => rw [e2] at h; cases h
      | some c =>
        obtain ⟨r, w⟩ := c
        rw [e2] at h
        cases h
        have hm : (r, w) ∈ s.ca := List.mem_of_getLast? e2
        refine .self (wf_enter wf _ _ s.ca.dropLast (fun g p z => wf.ca _ hm g p z) (fun c hc g p ec => wf.ca c ((List.dropLast_subset _) hc) g p ec) ?_ (wf.sk.pop e2)) rfl rfl
        rw [List.length_dropLast]
        have := wf.c8
        omega
end
open PySem PySem.Spec L2
section
variable {P : Program} {w : World} {K : PySem.W.Frag} {mg : Str → Option Value} {base : Heap}
theorem ok_on {f C CR CF : Addr} {fd : FuncData} {ops : List Str} (B : BT mg) (F : Fun K "act_on" "act_on" s_act_on f fd) (hm : mg "act_on" = some (.ref f)) (T : RCl K mg CR) (Fc : FltC P w K mg base CF) (M_next : MthX P w K mg base CR "next_row" 4 ["self"] (spNext C CR CF))
    (C_act : CalN P w K mg base "act" 7 ["run", "row"] (spAct C CR CF ops)) : CalN P w K mg base "act_on" 8 ["run", "most"] (spActOn C CR CF ops) := by
  refine ⟨f, fd, hm, F.kp, F.binds (ps := ["run", "most"]) fun _ _ _ _ _ _ us hl => match us, hl with | [_, _], _ => rfl, ?_⟩
  refine Fun.okN F sc_act_on (fun vs H Q E h => ?_) (fun cdv A outer s H vs Q E hr h => ?_)
  · obtain ⟨H0, x, m, us, xs, b, hand, s, most, rfl, _⟩ := h
    rfl
  · obtain ⟨H0, x, m, us, xs, b, hand, s, most, rfl, Mc, R, hpre, k⟩ := h
    refine ⟨_, (pss_cons (ps_set (i := 2) sc_act_on.nd rfl (Or.inl rfl) pe_int)
 (pss_one (ps_while (passes_of rfl) (pt_cmpR op_notN (pe_fldK (K := K) (pv 0) rfl) pe_non (nomark _)) (pss_cons (ps_set (i := 3) sc_act_on.nd rfl (Or.inl rfl) (pe_mthE0 (E := E) M_next T.cl (hr.mono (by omega)) (L2N.takes_of rfl rfl rfl rfl) (pv 0)))
 (pss_cons (ps_if (pt_cmpR op_ge (pv 2) (pv 1) (nomark _)) (pss_one (ps_fault Fc rfl (L2N.takes_of rfl rfl rfl rfl) (hr.mono (by omega)) rfl pe_str)) pss_nil)
 (pss_cons (ps_aug (i := 2) sc_act_on.nd rfl (Or.inl rfl) pe_int ip_add)
 (pss_cons (ps_asg (pe_fldK (K := K) (pv 0) rfl) (pg_tup (by rfl) (pgs_cons (pg_name (i := 4) sc_act_on.nd rfl (Or.inl rfl)) (pgs_cons (pg_name (i := 5) sc_act_on.nd rfl (Or.inl rfl)) pgs_nil))))
 (pss_cons (ps_expr (pe_bm PySem.F.plainAttrs_list PySem.F.slot_list_append PySem.F.type_list_append mt_append (pe_fldK (K := K) (pv 0) rfl) (pa_cons (pe_tup (pa_cons (pe_fldK (K := K) (pv 0) rfl) (pa_cons (pv 4) (pa_cons (pv 5) (pa_cons (pe_callB (cr_lenS (K := K)) rfl B.g_len PySem.boot_len (pa_cons (pe_fldK (K := K) (pv 0) rfl) pa_nil)) pa_nil))))) pa_nil)))
 (pss_cons (ps_fldK (K := K) (pv 0) (pe_tup (pa_cons (pv 4) (pa_cons (pe_op op_add (pv 5) pe_int) pa_nil))) rfl)
 (pss_one (ps_expr (pe_calE (E := E) C_act (hr.mono (by omega)) rfl (L2N.takes_of rfl rfl rfl rfl) (pa_cons (pv 0) (pa_cons (pv 3) pa_nil)))))))))))))), ?_⟩
    walk_at "rds"
    refine ⟨fun i σ' H' => ∃ (j : Nat) (s' : Rn) (c3 c4 c5 : Option V), σ' = [some (.ref x), some (.int most), some (.int (j : Int)), c3, c4, c5] ∧ RunAt CR H0 H' x m hand s' ∧ Tk H H' ∧ j + i = most.toNat ∧ goR xs b i s' = goR xs b most.toNat s ∧ (s'.wh = none ∨ ((∀ z ∈ actOps, z ∈ ops) ∧ WF xs s' ∧ s'.st.length = j ∧ s'.to.length ≤ j + 1 ∧ ∃ i0, j + i0 ≤ 800 ∧ (i = i0 ∨ (i0 ≤ i ∧ (goR xs b i0 s').2 ≠ some ("long" : Str))))), ⟨most.toNat, 0, s, none, none, none, rfl, R, Tk.refl _, Nat.zero_add _, rfl, ?_⟩, ?_⟩
    · rcases hpre with h | ⟨h1, h2, h3, h4, h5⟩
      · exact .inl h
      · obtain ⟨n0, h6, h7⟩ := h5
        exact .inr ⟨h1, h2, by rw [h3]; rfl, by omega, n0, by omega, h7⟩
    · rintro i σ1 H1 ⟨j, s1, c3, c4, c5, rfl, R1, tk1, hj, hg, hI⟩
      obtain ⟨dx, lp, lm, lc, ls, lt, as, vw, r, n⟩ := R1.ex
      walk_at "rd"
      refine ⟨x, CR, dx, _, _, rfl, r.hx, T.cl, T.n_where, rF_where, ?_⟩
      walk_at "rd"
      refine ⟨rfl, ?_⟩
      walk_at "rd"
      rcases wh_val r.hw with ⟨e, rfl⟩ | ⟨g, p, q, e, rfl, hq⟩
      · have eg : goR xs b i s1 = (s1, none) := by cases i <;> (unfold goR; rw [e])
        rw [← hg, eg] at k
        show Q .non H1
        exact k H1 R1 tk1
      rcases hI with hI | ⟨hops, wf, hst, hto, h8⟩
      · rw [e] at hI; cases hI
      obtain ⟨g0, gN⟩ := wf.wh g p e
      show ∃ N : L2.St → Hp → Prop, _
      refine ⟨_, fun σ' H' h => h, ?_⟩
      walk_at "rd"
      refine ⟨x, dx, _, rfl, r.hx, rF_no_next_row, ?_⟩
      walk_at "rd"
      refine ⟨H0, x, m, us, xs, b, hand, g, p, s1, rfl, Mc, R1, e, g0, gN, fun hin v rv => ?_, fun hout => ?_⟩
      case refine_2 =>
        have eg : goR xs b i s1 = (s1, some ("row" : Str)) := by cases i <;> (unfold goR; rw [e]; dsimp only; rw [if_neg hout])
        rw [← hg, eg] at k
        exact k.flt R1 tk1
      walk_at "rd"
      refine rd_ifd (fun hlong => ?_) (fun hlong => ?_)
      · have ei : i = 0 := by omega
        subst ei
        have eg : goR xs b 0 s1 = (s1, some ("long" : Str)) := by unfold goR; rw [e]; dsimp only; rw [if_pos hin]
        rw [← hg, eg] at k
        walk_at "rd"
        exact (k.flt R1 tk1).here
      obtain ⟨i', rfl⟩ : ∃ i', i = i' + 1 := ⟨i - 1, by omega⟩
      obtain ⟨i0, h8, h9⟩ : ∃ i0, j + 1 + i0 ≤ 800 ∧ (i' = i0 ∨ (i0 ≤ i' ∧ (goR xs b (i0 + 1) s1).2 ≠ some ("long" : Str))) := by
        obtain ⟨i0, h8, h9⟩ := h8
        rcases h9 with h9 | ⟨h9, h10⟩
        · exact ⟨i', by omega, .inl rfl⟩
        · cases i0 with
          | zero => exact absurd (by unfold goR; rw [e]; dsimp only; rw [if_pos hin]) h10
          | succ i0 => exact ⟨i0, by omega, .inr ⟨by omega, h10⟩⟩
      walk_at "rd"
      refine ⟨.int (j : Int), rfl, j, 1, rfl, rfl, ?_⟩
      walk_at "rd"
      refine ⟨x, CR, dx, _, _, rfl, r.hx, T.cl, T.n_where, rF_where, ?_⟩
      walk_at "rd"
      obtain ⟨vs, hvs, rvs⟩ := r.hs
      obtain ⟨vc, hvc, rvc⟩ := r.hc
      refine ⟨x, CR, dx, _, _, rfl, r.hx, T.cl, T.n_steps, rF_steps, ?_⟩
      walk_at "rd"
      refine ⟨x, CR, dx, _, _, rfl, r.hx, T.cl, T.n_ring, rF_ring, ?_⟩
      walk_at "rd"
      refine ⟨x, CR, dx, _, _, rfl, r.hx, T.cl, T.n_calls, rF_calls, ?_⟩
      walk_at "rd"
      refine ⟨lc, vc, rfl, .inl (SqL.of hvc), ?_⟩
      rw [show vc.length = s1.ca.length by rw [rvc.length, List.length_map]]
      walk_at "rd"
      intro q3 hq3
      have s3 := same_upd (o := .tup [.int s1.ring, .int g, .int p, .int (s1.ca.length : Int)]) hq3
      have r3 := r.same s3
      have hvs3 := s3 _ _ hvs
      walk_at "rd"
      refine rd_append hvs3 (by rw [rvs.length, List.length_map]; exact Nat.lt_of_le_of_lt wf.s9 (by decide)) ?_
      have rS : RpAll (upd H1 q3 (.tup [.int s1.ring, .int g, .int p, .int (s1.ca.length : Int)])) (vs ++ [.ref q3]) ((s1.st ++ [(s1.ring, g, p, (s1.ca.length : Int))]).map stD) := by
        rw [List.map_append]
        exact (rvs.keep (Tk.of s3)).append (.cons (.tup upd_same (.cons (.int _) (.cons (.int _) (.cons (.int _) (.cons (.int _) .nil))))) .nil)
      have r4 := r3.setS rS
      have nls : H0 ls = none := n ls (by simp)
      have sm4 : Same H0 (upd (upd H1 q3 (.tup [.int s1.ring, .int g, .int p, .int (s1.ca.length : Int)])) ls (.lst (vs ++ [.ref q3]))) := same_put (R1.sm.trans s3) nls
      have tk4 : Tk H1 (upd (upd H1 q3 (.tup [.int s1.ring, .int g, .int p, .int (s1.ca.length : Int)])) ls (.lst (vs ++ [.ref q3]))) := (Tk.of s3).trans (Tk.lst hvs3)
      generalize upd (upd H1 q3 (.tup [.int s1.ring, .int g, .int p, .int (s1.ca.length : Int)])) ls (.lst (vs ++ [.ref q3])) = H4 at r4 sm4 tk4
      walk_at "rd"
      intro q5 hq5
      have s5 := same_upd (o := .tup [.int g, .int (p + 1)]) hq5
      have r5 := r4.same s5
      walk_at "rd"
      refine ⟨x, CR, dx, _, rfl, r5.hx, T.cl, T.n_where, by show 10 < 1000; decide, ?_⟩
      have r6 := r5.fld (s' := s1.stepTo g p) _ (put_where (v6 := .ref q)) rfl rfl rfl rfl rfl (.tup upd_same (.cons (.int _) (.cons (.int _) .nil)))
      have sm6 := same_put (o := .ins CR dx (putF "where" (.ref q5) (rF (.ref m) (.int hand) (.int s1.ring) (.int s1.a) (.ref lp) (.ref lm) (.ref q) (.ref lc) (.ref ls) (.ref lt)))) (sm4.trans s5) R1.nx
      have tk6 := (tk4.trans (Tk.of s5)).trans (Tk.ins (o := .ins CR dx (putF "where" (.ref q5) (rF (.ref m) (.int hand) (.int s1.ring) (.int s1.a) (.ref lp) (.ref lm) (.ref q) (.ref lc) (.ref ls) (.ref lt)))) r5.hx)
      walk_at "rd"
      have hx1 : sgAt xs g ∈ xs := by
        unfold sgAt
        rw [List.getD_eq_getElem?_getD, List.getElem?_eq_getElem (by omega)]
        exact List.getElem_mem _
      have hrow : rowAt xs g p ∈ (sgAt xs g).rs := by
        unfold rowAt
        rw [List.getD_eq_getElem?_getD, List.getElem?_eq_getElem (by omega)]
        exact List.getElem_mem _
      obtain ⟨f1, f2⟩ := Mc.ok _ hx1
      have f3 : (sgAt xs g).rs.all (rowFits · (xs.length : Int)) = true := by
        unfold sgFits at f2
        simp only [Bool.and_eq_true] at f2
        exact f2.2.2.2.2.2.2
      obtain ⟨o1, o2⟩ := row_okR (f1 _ hrow) (List.all_eq_true.mp f3 _ hrow)
      have wf6 : WF xs (s1.stepTo g p) := ⟨wf.pt4, wf.ptg, wf.me, wf.mw, fun g' p' z => (by
        have z' : some (g, p + 1) = some (g', p') := z
        cases z'
        exact ⟨g0, gN⟩), wf.ca, wf.c8, by
          show (s1.st ++ [_]).length ≤ 900
          rw [List.length_append, hst]
          show j + 1 ≤ 900
          omega, wf.t9, Stk.at (x := (g, p)) (e ▸ wf.sk)⟩
      refine ⟨H0, x, m, us, xs, b, hand, s1.stepTo g p, v, (rowAt xs g p).op, (rowAt xs g p).ns, rfl, Mc, ⟨⟨dx, lp, lm, lc, ls, lt, as, .ref q5, r6, n⟩, R1.nx, sm6⟩, wf6, rv.keep tk6, hops _ o1, o2, ?_⟩
      cases e7 : fnOf (rowAt xs g p).op xs b (s1.stepTo g p) (rowAt xs g p).ns with
      | mk s7 o =>
        cases o with
        | some c =>
          have eg : goR xs b (i' + 1) s1 = (s7, some c) := by
            conv => lhs; unfold goR
            rw [e]; dsimp only; rw [if_pos hin, e7]
          rw [← hg, eg] at k
          exact fun d H' hd h0 R' tk' => k d H' hd h0 R' ((tk1.trans tk6).trans tk')
        | none =>
          have eg : goR xs b (i' + 1) s1 = goR xs b i' s7 := by
            conv => lhs; unfold goR
            rw [e]; dsimp only; rw [if_pos hin, e7]
          have G := wf_keep wf6 (show s1.to.length ≤ 1999 by omega) o1 o2 e7
          intro H7 R7 tk7
          walk_at "rd"
          have h11 : i' = i0 ∨ (i0 ≤ i' ∧ (goR xs b i0 s7).2 ≠ some ("long" : Str)) := by
            rcases h9 with h9 | ⟨h9, h10⟩
            · exact .inl h9
            · refine .inr ⟨h9, fun z => h10 ?_⟩
              conv => lhs; unfold goR
              rw [e]; dsimp only; rw [if_pos hin, e7]
              exact z
          refine ⟨i', Nat.lt_succ_self _, j + 1, s7, _, _, _, rfl, R7, (tk1.trans tk6).trans tk7, by omega, eg.symm.trans hg, .inr ⟨hops, G.wf, ?_, ?_, i0, h8, h11⟩⟩
          · rw [G.st]
            show (s1.st ++ [_]).length = _
            rw [List.length_append, hst]
            rfl
          · refine Nat.le_trans G.to ?_
            show s1.to.length + 1 ≤ _
            omega
end
open PySem PySem.Spec L2
section
variable {P : Program} {w : World} {K : PySem.W.Frag} {mg : Str → Option Value} {base : Heap}
def spRefuse (C : Addr) : Sp := fun vs H Q _ => ∃ (x L : Addr) (us : List V) (xs : List Sg) (b : Int) (ds : List V) (rs : List Rw), vs = [.ref x, .ref L] ∧ MAt C H x us b ∧ us.length = xs.length ∧ xs.length ≤ 8 ∧ H L = some (.lst ds) ∧ RpAll H ds (rs.map Rw.d) ∧ (∀ r ∈ rs, RwForm r ∧ rowFits r (xs.length : Int) = true) ∧ ∀ H', Same H H' → Q .non H'
theorem ok_refuse {f C : Addr} {fd : FuncData} (B : BT mg) (TM : MC K mg C) (F : Fun K "refuse_faulty" "refuse_faulty" s_refuse_faulty f fd) (hm : mg "refuse_faulty" = some (.ref f)) (M_len : Mth P w K mg base C "__len__" 1 ["self"] (spLen C)) (C_row_fits : Cal P w K mg base "row_fits" 4 ["row", "many"] spRowFits) : Cal P w K mg base "refuse_faulty" 5 ["machine", "deeds"] (spRefuse C) := by
  refine ⟨f, fd, hm, F.kp, F.binds (ps := ["machine", "deeds"]) fun _ _ _ _ _ _ us hl => match us, hl with | [_, _], _ => rfl, ?_⟩
  refine F.ok sc_refuse_faulty (fun vs H Q E h => ?_) (fun cdv A outer s H vs Q E hr h => ?_)
  · obtain ⟨x, L, us, xs, b, ds, rs, rfl, _⟩ := h
    rfl
  · obtain ⟨x, L, us, xs, b, ds, rs, rfl, hM, lu, l8, hL, rd, ok, k⟩ := h
    refine ⟨_, (pss_one (ps_for PassesOwn.never rfl (pi_listK (K := K) (pv 1)) (pg_name (i := 2) sc_refuse_faulty.nd rfl (Or.inl rfl))
 (pss_one (ps_if (pt_not (pt_val (pe_cal C_row_fits (hr.mono (by omega)) rfl (pa_cons (pv 2) (pa_cons (pe_callB (r := rLenO C (spLen C) E0) (cr_len M_len (hr.mono (by omega))) rfl B.g_len PySem.boot_len (pa_cons (pv 0) pa_nil)) pa_nil))))) (pss_one ps_never) pss_nil)))), ?_⟩
    walk_at "rds"
    refine ⟨L, rfl, ⟨_, SqL.of hL⟩, ?_⟩
    refine for_inv (walk_list (xs := ds)) (fun i σ' H' => (∃ c : Option V, σ' = [some (.ref x), some (.ref L), c]) ∧ Same H H') ⟨⟨none, rfl⟩, fun _ _ h => h⟩ (fun i σ' H' _ p => SqL.of (p.2 _ _ hL)) ?_ ?_
    · rintro Bk i y σ1 Ha Hb hi ⟨⟨c, rfl⟩, sa⟩ ⟨rfl, hy⟩
      walk_at "rd"
      obtain ⟨d, hd, ry⟩ := rd.get hy
      rw [List.getElem?_map] at hd
      obtain ⟨r, hr1, rfl⟩ := Option.map_eq_some_iff.mp hd
      obtain ⟨ok1, ok2⟩ := ok r (List.mem_of_getElem? hr1)
      have hM1 := hM.same sa
      obtain ⟨mdx, mq, mh1, mh2⟩ := id hM1
      refine ⟨x, mdx, _, rfl, mh1, ?_⟩
      refine ⟨x, us, b, rfl, hM1, ⟨_, rfl, by omega, ?_, ?_⟩⟩
      · omega
      walk_at "rd"
      refine ⟨y, r, _, rfl, ry.keep (Tk.of sa), ok1, fun H3 s3 => ?_⟩
      rw [lu, ok2]
      walk_at "rd"
      exact ⟨⟨_, rfl⟩, sa.trans s3⟩
    · rintro σ1 H1 ⟨⟨c, rfl⟩, s1⟩
      walk_at "rd"
      exact k _ s1
def spDone (C CR CF : Addr) (ops : List Str) : Sp := fun vs H Q _ => ∃ (x : Addr) (us : List V) (xs : List Sg) (b : Int) (v u : V) (sd : Sd) (op : Str) (ns : List Int) (most : Int), vs = [.ref x, v, u, .int most] ∧ Mch C H x us xs b ∧ Rp H v sd.d ∧ Rp H u (.tuple (.str op :: ns.map PyData.int)) ∧ WF xs (initR sd) ∧ op ∈ ops ∧ RwForm ⟨op, ns⟩ ∧ rowFits ⟨op, ns⟩ (xs.length : Int) = true ∧
  (∀ s', fnOf op xs b (initR sd) ns = (s', none) → OnPre ops xs b most.toNat s') ∧ (deedR xs b most.toNat (initR sd) op ns).1.me.length ≤ 900 ∧
  ∀ (z : V) (H' : Hp), Rp H' z (.tuple [((deedR xs b most.toNat (initR sd) op ns).1.sd sd.ring).d, toldD (deedR xs b most.toNat (initR sd) op ns).2]) → Same H H' → Q z H'
theorem ok_done {f fI C CR CF : Addr} {fd fdI : FuncData} {ops : List Str} (B : BT mg) (T : RCl K mg CR) (F : FunD K "done" "done" (defArgs s_done) (defBody s_done) (defScope s_done) [] [("most", .int 100)] f fd)
    (C_refuse_faulty : Cal P w K mg base "refuse_faulty" 5 ["machine", "deeds"] (spRefuse C)) (MkR : Mk K CR fI) (F_rinit : FnOk P w K mg base CX0 1 fI fdI ["self", "machine", "stand"] (spRInit CR)) (bRI : Binds K fdI ["self", "machine", "stand"] []) (C_do_deed : Cal P w K mg base "do_deed" 9 ["run", "deed", "most"] (spDeed C CR CF ops)) (M_stand : Mth P w K mg base CR "stand_now" 1 ["self"] (spStand CR)) :
    FnOk P w K mg base CX0 10 f fd ["machine", "stand", "deed", "most"] (spDone C CR CF ops) := by
  refine F.ok sc_done (fun vs H Q E h => ?_) (fun cdv A outer s H vs Q E hr h => ?_)
  · obtain ⟨x, us, xs, b, v, u, sd, op, ns, most, rfl, _⟩ := h
    rfl
  · obtain ⟨x, us, xs, b, v, u, sd, op, ns, most, rfl, Mc, rv, ru, wf, ho, rf, rk, hpre, l9, k⟩ := h
    refine ⟨_, PSs.nox (pss_cons (ps_expr (pe_cal C_refuse_faulty (hr.mono (by omega)) rfl (pa_cons (pv 0) (pa_cons (pe_lst (pa_cons (pv 2) pa_nil)) pa_nil))))
 (pss_cons (ps_set (i := 4) sc_done.nd rfl (Or.inl rfl) (pe_make MkR F_rinit (hr.mono (by omega)) rfl T.mgC bRI .nil pass0 (pa_cons (pv 0) (pa_cons (pv 1) pa_nil))))
 (pss_cons (ps_set (i := 5) sc_done.nd rfl (Or.inl rfl) (pe_cal C_do_deed (hr.mono (by omega)) rfl (pa_cons (pv 4) (pa_cons (pv 2) (pa_cons (pv 3) pa_nil)))))
 (pss_one (ps_ret (pe_tup (pa_cons (pe_mth0 M_stand T.cl (hr.mono (by omega)) (pv 4)) (pa_cons (pv 5) pa_nil)))))))), ?_⟩
    walk_at "rds"
    intro p1 hp1
    have s1 := same_upd (o := .lst [u]) hp1
    walk_at "rd"
    refine ⟨x, p1, us, xs, b, [u], [⟨op, ns⟩], rfl, Mc.at_.same s1, by rw [Mc.rp.length, List.length_map], Mc.l8, upd_same, .cons (ru.keep (Tk.of s1)) .nil, fun r hr => by rw [List.mem_singleton.mp hr]; exact ⟨rf, rk⟩, fun H2 s2 => ?_⟩
    have s12 := s1.trans s2
    have Mc2 : Mch C H2 x us xs b := ⟨Mc.at_.same s12, Mc.rp.keep (Tk.of s12), Mc.l8, Mc.b2, Mc.ok⟩
    walk_at "rd"
    intro xr dx hx1 hx2 hne
    have s3 : Same H2 (upd (upd H2 dx (.own xr)) xr (.ins CR dx [])) := (same_upd hx2).trans (same_upd (by rw [upd_ne (Ne.symm hne)]; exact hx1))
    have me9 : sd.me.length ≤ 900 := by
      have h1 : sd.me.length = xs.length := wf.me
      have h2 := Mc.l8
      omega
    refine ⟨H2, xr, dx, x, v, sd, rfl, upd_same, hx1, s3, rv.keep (Tk.of (s12.trans s3)), me9, fun H4 R4 tk4 => ⟨rfl, ?_⟩⟩
    have tkA := (Tk.of (s12.trans s3)).trans tk4
    walk_at "rd"
    refine ⟨H2, xr, x, us, xs, b, sd.ring, initR sd, u, op, ns, most, rfl, Mc2, R4, wf, ru.keep tkA, ho, (row_okR rf rk).2, hpre, fun z H5 R5 rz tk5 => ?_⟩
    obtain ⟨dx5, lp, lm, lc, ls, lt, as, vw, r5, n5⟩ := R5.ex
    walk_at "rd"
    refine ⟨xr, dx5, _, rfl, r5.hx, rF_no_stand_now, ?_⟩
    walk_at "rd"
    refine ⟨H2, xr, x, sd.ring, _, rfl, R5, l9, fun v6 H6 rv6 s6 => ?_⟩
    walk_at "rd"
    intro q7 hq7
    have s7 := same_upd (o := .tup [v6, z]) hq7
    exact k _ _ (.tup upd_same (.cons (rv6.keep (Tk.of s7)) (.cons (rz.keep (Tk.of (s6.trans s7))) .nil))) (s12.trans (R5.sm.trans (s6.trans s7)))
end
open PySem PySem.Spec L2
section
variable {P : Program} {w : World} {K : PySem.W.Frag} {mg : Str → Option Value} {base : Heap}
theorem read_me {xs : List Sg} {s s' : Rn} {p w e g : Int} {wd : Wd} (h : readR xs s p w = .ok (wd, e, g, s')) : s'.me = s.me := by
  unfold readR at h
  cases hs : spotR s p w with
  | error c => rw [hs] at h; cases h
  | ok z =>
    obtain ⟨e1, g1, pl⟩ := z
    rw [hs] at h
    dsimp only at h
    by_cases hc : mRead (sgAt xs g1) e1 = true
    · rw [if_pos hc] at h
      cases h
      rfl
    · rw [if_neg hc] at h
      cases h
theorem write_me {xs : List Sg} {s s' : Rn} {p w : Int} {wd : Wd} {c : Str} (h : writeR xs s p w wd = (s', some c)) : s'.me = s.me := by
  unfold writeR at h
  cases hs : spotR s p w with
  | error c => rw [hs] at h; cases h; rfl
  | ok z =>
    obtain ⟨e1, g1, pl⟩ := z
    rw [hs] at h
    dsimp only at h
    by_cases hc : mWrite (sgAt xs g1) e1 = true
    · rw [if_pos hc] at h
      cases h
    · rw [if_neg hc] at h
      cases h
      rfl
/-- a row that faults leaves the words as they were -/
theorem flt_me {xs : List Sg} {b : Int} {s s' : Rn} {op : Str} {ns : List Int} {c : Str} (ho : op ∈ actOps) (h : fnOf op xs b s ns = (s', some c)) : s'.me = s.me := by
  unfold actOps at ho
  simp only [List.mem_cons, List.not_mem_nil, or_false] at ho
  rcases ho with rfl | rfl | rfl | rfl | rfl | rfl | rfl | rfl | rfl | rfl | rfl | rfl
  · rw [fn_set] at h
    cases h
  · rw [fn_add] at h
    cases h
  · rw [fn_load] at h
    replace h : rLoad xs s (one ns) (two ns) = (s', some c) := h
    unfold rLoad at h
    cases hr : readR xs s (one ns) (two ns) with
    | error c => rw [hr] at h; cases h; rfl
    | ok z =>
      obtain ⟨wd, e, g, s1⟩ := z
      have q := read_me hr
      rw [hr] at h
      cases wd with
      | num n => cases h
      | ptr a1 a2 a3 => cases h; exact q
  · rw [fn_store] at h
    exact write_me h
  · rw [fn_fetch] at h
    replace h : rFetch xs s (one ns) (two ns) (three ns) = (s', some c) := h
    unfold rFetch at h
    cases hr : readR xs s (two ns) (three ns) with
    | error c => rw [hr] at h; cases h; rfl
    | ok z =>
      obtain ⟨wd, e, g, s1⟩ := z
      have q := read_me hr
      rw [hr] at h
      cases wd with
      | num n => cases h; exact q
      | ptr a1 a2 a3 => cases h
  · rw [fn_keep] at h
    replace h : rKeep xs s (one ns) (two ns) (three ns) = (s', some c) := h
    unfold rKeep at h
    cases e : s.ptr (one ns) with
    | none => rw [e] at h; cases h; rfl
    | some z =>
      obtain ⟨r1, g1, pl⟩ := z
      rw [e] at h
      exact write_me h
  · rw [fn_aim] at h
    replace h : rAim s (one ns) (two ns) (three ns) = (s', some c) := h
    unfold rAim at h
    by_cases hw : three ns < 0
    · rw [if_pos hw] at h; cases h; rfl
    · rw [if_neg hw] at h
      cases h
  · rw [fn_move] at h
    replace h : rMove s (one ns) (two ns) (three ns) = (s', some c) := h
    unfold rMove at h
    cases e : s.ptr (two ns) with
    | none => rw [e] at h; cases h; rfl
    | some z =>
      obtain ⟨r1, g1, pl⟩ := z
      rw [e] at h
      dsimp only at h
      by_cases hw : pl + three ns < 0
      · rw [if_pos hw] at h; cases h; rfl
      · rw [if_neg hw] at h
        cases h
  · rw [fn_zero] at h
    replace h : rZero s (one ns) = (s', some c) := h
    unfold rZero at h
    cases e : s.wh with
    | none => rw [e] at h; cases h; rfl
    | some z =>
      obtain ⟨g1, pl⟩ := z
      rw [e] at h
      dsimp only at h
      by_cases hw : s.a = 0
      · rw [if_pos hw] at h
        cases h
      · rw [if_neg hw] at h
        cases h
  · rw [fn_go] at h
    replace h : rGo s (one ns) = (s', some c) := h
    unfold rGo at h
    cases e : s.wh with
    | none => rw [e] at h; cases h; rfl
    | some z =>
      obtain ⟨g1, pl⟩ := z
      rw [e] at h
      cases h
  · rw [fn_call] at h
    replace h : rCall xs s (one ns) = (s', some c) := h
    unfold rCall at h
    cases e : s.ptr (one ns) with
    | none => rw [e] at h; cases h; rfl
    | some z =>
      obtain ⟨r1, g1, pl⟩ := z
      rw [e] at h
      dsimp only at h
      cases e2 : enteredR (sgAt xs g1) pl (mx s.ring r1) with
      | error c => rw [e2] at h; cases h; rfl
      | ok e3 =>
        rw [e2] at h
        dsimp only at h
        by_cases h8 : 8 ≤ s.ca.length
        · rw [if_pos h8] at h; cases h; rfl
        · rw [if_neg h8] at h
          cases h
  · rw [fn_return] at h
    replace h : rRet s = (s', some c) := h
    unfold rRet at h
    cases e : s.wh with
    | none => rw [e] at h; cases h; rfl
    | some z =>
      obtain ⟨g1, pl⟩ := z
      rw [e] at h
      dsimp only at h
      cases e2 : s.ca.getLast? with
      | none => rw [e2] at h; cases h; rfl
      | some c =>
        obtain ⟨r, w⟩ := c
        rw [e2] at h
        cases h
/-- the stand behind a deed is a good one -/
theorem wf_init {xs : List Sg} {s : Rn} (r : Int) (wf : WF xs s) : WF xs (initR (s.sd r)) := ⟨wf.pt4, wf.ptg, wf.me, wf.mw, fun g p e => (nomatch e), fun c hc => (nomatch hc), Nat.zero_le _, Nat.zero_le _, Nat.zero_le _, Stk.nil⟩
theorem wf_lost {xs : List Sg} {s : Rn} (r : Int) (h1 : s.me.length = xs.length) (h2 : ∀ ws ∈ s.me, ws.length ≤ 900 ∧ ∀ r g p, Wd.ptr r g p ∈ ws → 0 ≤ g ∧ g < (xs.length : Int) ∧ 0 ≤ p) : WF xs (initR (s.lost.sd r)) := ⟨rfl, fun r g p e => (by
  have e' : some (r, g, p) ∈ ([none, none, none, none] : List Pt) := e
  simp at e'), h1, h2, fun g p e => (nomatch e), fun c hc => (nomatch hc), Nat.zero_le _, Nat.zero_le _, Nat.zero_le _, Stk.nil⟩
end
open PySem PySem.Spec L2
section
variable {P : Program} {w : World} {K : PySem.W.Frag} {mg : Str → Option Value} {base : Heap}
def MG (xs : List Sg) (me : List (List Wd)) : Prop := me.length = xs.length ∧ ∀ ws ∈ me, ws.length ≤ 900 ∧ ∀ r g p, Wd.ptr r g p ∈ ws → 0 ≤ g ∧ g < (xs.length : Int) ∧ 0 ≤ p
theorem row_in {xs : List Sg} {b g p : Int} (hs : ∀ x ∈ xs, SgForm x ∧ sgFits x b xs.length = true) (g0 : 0 ≤ g) (gN : g < (xs.length : Int)) (hin : 0 ≤ p ∧ p < ((sgAt xs g).rs.length : Int)) : (rowAt xs g p).op ∈ actOps ∧ okOf (rowAt xs g p).op xs (rowAt xs g p).ns := by
  have hx1 : sgAt xs g ∈ xs := by
    unfold sgAt
    rw [List.getD_eq_getElem?_getD, List.getElem?_eq_getElem (by omega)]
    exact List.getElem_mem _
  have hrow : rowAt xs g p ∈ (sgAt xs g).rs := by
    unfold rowAt
    rw [List.getD_eq_getElem?_getD, List.getElem?_eq_getElem (by omega)]
    exact List.getElem_mem _
  obtain ⟨f1, f2⟩ := hs _ hx1
  have f3 : (sgAt xs g).rs.all (rowFits · (xs.length : Int)) = true := by
    unfold sgFits at f2
    simp only [Bool.and_eq_true] at f2
    exact f2.2.2.2.2.2.2
  exact row_okR (f1 _ hrow) (List.all_eq_true.mp f3 _ hrow)
theorem wf_step {xs : List Sg} {s : Rn} {g p : Int} (wf : WF xs s) (e : s.wh = some (g, p)) (h : s.st.length ≤ 899) : WF xs (s.stepTo g p) := by
  obtain ⟨g0, gN⟩ := wf.wh g p e
  exact ⟨wf.pt4, wf.ptg, wf.me, wf.mw, fun g' p' z => (by
    have z' : some (g, p + 1) = some (g', p') := z
    cases z'
    exact ⟨g0, gN⟩), wf.ca, wf.c8, by
      show (s.st ++ [_]).length ≤ 900
      rw [List.length_append]
      show s.st.length + 1 ≤ 900
      omega, wf.t9, Stk.at (x := (g, p)) (e ▸ wf.sk)⟩
theorem go_good {xs : List Sg} {b : Int} (hs : ∀ x ∈ xs, SgForm x ∧ sgFits x b xs.length = true) : ∀ (n : Nat) (s s' : Rn) (o : Option Str), WF xs s → s.to.length + n ≤ 1999 → s.st.length + n ≤ 900 → goR xs b n s = (s', o) → (o = none → WF xs s') ∧ MG xs s'.me
  | 0, s, s', o, wf, h1, h2, h => by
    unfold goR at h
    cases e : s.wh with
    | none =>
      rw [e] at h
      cases h
      exact ⟨fun _ => wf, wf.me, wf.mw⟩
    | some z =>
      obtain ⟨g, p⟩ := z
      rw [e] at h
      dsimp only at h
      split at h <;> cases h
      · exact ⟨fun z => (nomatch z), wf.me, wf.mw⟩
      · exact ⟨fun z => (nomatch z), wf.me, wf.mw⟩
  | n + 1, s, s', o, wf, h1, h2, h => by
    unfold goR at h
    cases e : s.wh with
    | none =>
      rw [e] at h
      cases h
      exact ⟨fun _ => wf, wf.me, wf.mw⟩
    | some z =>
      obtain ⟨g, p⟩ := z
      obtain ⟨g0, gN⟩ := wf.wh g p e
      rw [e] at h
      dsimp only at h
      by_cases hin : 0 ≤ p ∧ p < ((sgAt xs g).rs.length : Int)
      · rw [if_pos hin] at h
        obtain ⟨o1, o2⟩ := row_in hs g0 gN hin
        have wf6 := wf_step wf e (by omega)
        cases e7 : fnOf (rowAt xs g p).op xs b (s.stepTo g p) (rowAt xs g p).ns with
        | mk s7 o7 =>
          rw [e7] at h
          cases o7 with
          | some c =>
            cases h
            refine ⟨fun z => (nomatch z), ?_⟩
            rw [flt_me o1 e7]
            exact ⟨wf.me, wf.mw⟩
          | none =>
            have G := wf_keep wf6 (show s.to.length ≤ 1999 by omega) o1 o2 e7
            refine go_good hs n s7 s' o G.wf ?_ ?_ h
            · have := G.to
              have e8 : (s.stepTo g p).to.length = s.to.length := rfl
              omega
            · rw [G.st]
              show (s.st ++ [_]).length + n ≤ 900
              rw [List.length_append]
              show s.st.length + 1 + n ≤ 900
              omega
      · rw [if_neg hin] at h
        cases h
        exact ⟨fun z => (nomatch z), wf.me, wf.mw⟩
/-- the stand behind a deed is a good one -/
theorem deed_good {xs : List Sg} {b : Int} {sd : Sd} {op : Str} {ns : List Int} {n : Nat} (hs : ∀ x ∈ xs, SgForm x ∧ sgFits x b xs.length = true) (wf : WF xs (initR sd)) (ho : op ∈ actOps) (hk : okOf op xs ns) (hn : n ≤ 800) (r : Int) : WF xs (initR ((deedR xs b n (initR sd) op ns).1.sd r)) := by
  unfold deedR
  cases e : fnOf op xs b (initR sd) ns with
  | mk s1 o =>
    cases o with
    | some c =>
      dsimp only
      have em := flt_me ho e
      exact wf_lost r (by rw [em]; exact wf.me) (by rw [em]; exact wf.mw)
    | none =>
      dsimp only
      have G := wf_keep wf (Nat.zero_le _) ho hk e
      have e1 : (initR sd).to.length = 0 := rfl
      have e2 : s1.st.length = 0 := by rw [G.st]; rfl
      have g1 := G.to
      cases eg : goR xs b n s1 with
      | mk s2 o2 =>
        obtain ⟨q1, q2⟩ := go_good hs n s1 s2 o2 G.wf (by omega) (by omega) eg
        cases o2 with
        | none => exact wf_init r (q1 rfl)
        | some c => exact wf_lost r q2.1 q2.2
theorem on_pre {xs : List Sg} {b : Int} {sd : Sd} {op : Str} {ns : List Int} {n : Nat} (wf : WF xs (initR sd)) (ho : op ∈ actOps) (hk : okOf op xs ns) (hn : n ≤ 800) : ∀ s', fnOf op xs b (initR sd) ns = (s', none) → OnPre actOps xs b n s' := fun s' e => by
  have G := wf_keep wf (Nat.zero_le _) ho hk e
  exact .inr ⟨fun z hz => hz, G.wf, G.st, G.to, n, hn, .inl rfl⟩
end
open PySem PySem.Spec L2
section
variable {P : Program} {w : World} {K : PySem.W.Frag} {mg : Str → Option Value} {base : Heap}
def spFInit (P : Program) (w : World) (CI : Addr) : Sp := fun vs H Q _ => ∃ (H0 : Hp) (x dx q : Addr) (k : NestedKey) (lim : Int), vs = [.ref x, .ref q, .int lim] ∧ H x = some (.ins CI dx []) ∧ H0 x = none ∧ Same H0 H ∧ Rp H (.ref q) k.data ∧ k.depth ≤ 8 ∧ ∀ (wl : Addr) (H' : Hp), FAt P w CI H0 H' x lim [⟨k, q, wl, []⟩] 0 → Tk H H' → Q .non H'
theorem ok_finit {f CI : Addr} {fd : FuncData} (B : BT mg) (T : FiC K mg CI) (F : Fun K "__init__" "Finds.__init__" s_Finds__init f fd) : FnOk P w K mg base CX0 1 f fd ["self", "start", "limit"] (spFInit P w CI) := by
  refine F.ok sc_Finds__init (fun vs H Q E h => ?_) (fun cdv A outer s H vs Q E hr h => ?_)
  · obtain ⟨H0, x, dx, q, k, lim, rfl, _⟩ := h
    rfl
  · obtain ⟨H0, x, dx, q, k, lim, rfl, hx, nx, sm, rk, dk, K1⟩ := h
    refine ⟨_, (pss_cons (ps_fldK (K := K) (pv 0) (pv 2) rfl)
 (pss_cons (ps_fldK (K := K) (pv 0) (pe_lst (pa_cons (pv 1) pa_nil)) rfl)
 (pss_cons (ps_fldK (K := K) (pv 0) (pe_dispN hr.units (pv 1) (pe_lst pa_nil)) rfl)
 (pss_one (ps_fldK (K := K) (pv 0) pe_int rfl))))), ?_⟩
    walk_at "rds"
    refine ⟨x, CI, dx, _, rfl, hx, T.cl, T.n_limit, by show 0 < 1000; decide, ?_⟩
    rw [putg_limit]
    have tk1 := Tk.ins (o := .ins CI dx [("limit", .int lim)]) hx
    have hx1 : upd H x (.ins CI dx [("limit", .int lim)]) x = some (.ins CI dx [("limit", .int lim)]) := upd_same
    have sm1 := same_put (o := .ins CI dx [("limit", .int lim)]) sm nx
    generalize upd H x (.ins CI dx [("limit", .int lim)]) = H1 at tk1 hx1 sm1
    walk_at "rd"
    intro ls hls
    have s2 := same_upd (o := .lst [.ref q]) hls
    have nls := sm1.free hls
    have hx2 := s2 _ _ hx1
    have els : upd H1 ls (.lst [.ref q]) ls = some (.lst [.ref q]) := upd_same
    generalize upd H1 ls (.lst [.ref q]) = H2 at s2 hx2 els
    walk_at "rd"
    refine ⟨x, CI, dx, _, rfl, hx2, T.cl, T.n_things, by show 1 < 1000; decide, ?_⟩
    rw [putg_things]
    have tk3 := Tk.ins (o := .ins CI dx [("limit", .int lim), ("things", .ref ls)]) hx2
    have hx3 : upd H2 x (.ins CI dx [("limit", .int lim), ("things", .ref ls)]) x = some (.ins CI dx [("limit", .int lim), ("things", .ref ls)]) := upd_same
    have sm3 := same_put (o := .ins CI dx [("limit", .int lim), ("things", .ref ls)]) (sm1.trans s2) nx
    have els3 : upd H2 x (.ins CI dx [("limit", .int lim), ("things", .ref ls)]) ls = some (.lst [.ref q]) := (upd_ne (ne_of els hx2 (fun z => nomatch z))).trans els
    generalize upd H2 x (.ins CI dx [("limit", .int lim), ("things", .ref ls)]) = H3 at tk3 hx3 sm3 els3
    walk_at "rd"
    intro D hD
    have s4 := same_upd (o := dN P w D []) hD
    have nD := sm3.free hD
    have rk3 := ((rk.keep tk1).keep (Tk.of s2)).keep tk3
    have hx4 := s4 _ _ hx3
    have els4 := s4 _ _ els3
    have rk4 := rk3.keep (Tk.of s4)
    have eD : upd H3 D (dN P w D []) D = some (dN P w D []) := upd_same
    have sm4 := sm3.trans s4
    generalize upd H3 D (dN P w D []) = H4 at s4 hx4 els4 rk4 eD sm4
    walk_at "rd"
    intro wl hwl
    have s5 := same_upd (o := .lst []) hwl
    have nwl := sm4.free hwl
    have ewl : upd H4 wl (.lst []) wl = some (.lst []) := upd_same
    have hx5 := s5 _ _ hx4
    have els5 := s5 _ _ els4
    have eD5 := s5 _ _ eD
    have rk5 := rk4.keep (Tk.of s5)
    have ne1 : wl ≠ ls := Ne.symm (ne_of_none els4 hwl)
    have sm5 := sm4.trans s5
    generalize upd H4 wl (.lst []) = H5 at s5 ewl hx5 els5 eD5 rk5 sm5
    refine ⟨q, k, rfl, eD5, rk5, dk, ?_⟩
    have tk6 : Tk H5 (upd H5 D (dN P w D [(k, q, .ref wl)])) := fun b xs e => by
      rw [upd_ne (ne_of e eD5 (fun z => nomatch z))]
      exact e
    have hx6 : upd H5 D (dN P w D [(k, q, .ref wl)]) x = _ := (upd_ne (ne_of hx5 eD5 (fun z => nomatch z))).trans hx5
    have els6 : upd H5 D (dN P w D [(k, q, .ref wl)]) ls = _ := (upd_ne (ne_of els5 eD5 (fun z => nomatch z))).trans els5
    have ewl6 : upd H5 D (dN P w D [(k, q, .ref wl)]) wl = _ := (upd_ne (ne_of ewl eD5 (fun z => nomatch z))).trans ewl
    have eD6 : upd H5 D (dN P w D [(k, q, .ref wl)]) D = some (dN P w D [(k, q, .ref wl)]) := upd_same
    have sm6 := same_put (o := dN P w D [(k, q, .ref wl)]) sm5 nD
    have rk6 := rk5.keep tk6
    generalize upd H5 D (dN P w D [(k, q, .ref wl)]) = H6 at tk6 hx6 els6 ewl6 eD6 sm6 rk6
    walk_at "rd"
    refine ⟨x, CI, dx, _, rfl, hx6, T.cl, T.n_ways, by show 2 < 1000; decide, ?_⟩
    rw [putg_ways]
    have hx7 : upd H6 x (.ins CI dx [("limit", .int lim), ("things", .ref ls), ("ways", .ref D)]) x = some (.ins CI dx [("limit", .int lim), ("things", .ref ls), ("ways", .ref D)]) := upd_same
    have tk7 := Tk.ins (o := .ins CI dx [("limit", .int lim), ("things", .ref ls), ("ways", .ref D)]) hx6
    have sm7 := same_put (o := .ins CI dx [("limit", .int lim), ("things", .ref ls), ("ways", .ref D)]) sm6 nx
    have els7 : upd H6 x (.ins CI dx [("limit", .int lim), ("things", .ref ls), ("ways", .ref D)]) ls = _ := (upd_ne (ne_of els6 hx6 (fun z => nomatch z))).trans els6
    have ewl7 : upd H6 x (.ins CI dx [("limit", .int lim), ("things", .ref ls), ("ways", .ref D)]) wl = _ := (upd_ne (ne_of ewl6 hx6 (fun z => nomatch z))).trans ewl6
    have eD7 : upd H6 x (.ins CI dx [("limit", .int lim), ("things", .ref ls), ("ways", .ref D)]) D = _ := (upd_ne (ne_of eD6 hx6 (fun z => nomatch z))).trans eD6
    generalize upd H6 x (.ins CI dx [("limit", .int lim), ("things", .ref ls), ("ways", .ref D)]) = H7 at hx7 tk7 sm7 els7 ewl7 eD7
    walk_at "rd"
    refine ⟨x, CI, dx, _, rfl, hx7, T.cl, T.n_taken, by show 3 < 1000; decide, ?_⟩
    rw [putg_taken]
    have tk8 := Tk.ins (o := .ins CI dx [("limit", .int lim), ("things", .ref ls), ("ways", .ref D), ("taken", .int 0)]) hx7
    have tkA := (((((tk1.trans (Tk.of s2)).trans tk3).trans (Tk.of s4)).trans (Tk.of s5)).trans tk6).trans (tk7.trans tk8)
    have oth : ∀ (b : Addr) (o : HO), H7 b = some o → b ≠ x → upd H7 x (.ins CI dx [("limit", .int lim), ("things", .ref ls), ("ways", .ref D), ("taken", .int 0)]) b = some o := fun b o e ne => (upd_ne ne).trans e
    refine K1 wl _ ⟨⟨dx, ls, D, upd_same, oth _ _ els7 (ne_of els7 hx7 (fun z => nomatch z)), oth _ _ eD7 (ne_of eD7 hx7 (fun z => nomatch z)), nx, nls, nD, fun t ht => ?_⟩, fun t ht => ?_, same_put sm7 nx, by simp⟩ tkA
    · rw [List.mem_singleton.mp ht]
      exact ⟨oth _ _ ewl7 (ne_of ewl7 hx7 (fun z => nomatch z)), nwl, ne1⟩
    · rw [List.mem_singleton.mp ht]
      exact ⟨rk.keep tkA, dk⟩
def spMore (P : Program) (w : World) (CI : Addr) : Sp := fun vs H Q _ => ∃ (H0 : Hp) (x : Addr) (lim : Int) (ts : List Th) (tk : Nat), vs = [.ref x] ∧ FAt P w CI H0 H x lim ts tk ∧ ∀ H', Same H H' → Q (.bl (decide (tk < ts.length))) H'
theorem ok_more {f CI : Addr} {fd : FuncData} (B : BT mg) (T : FiC K mg CI) (M : Meth K CI "more" f) (F : Fun K "more" "Finds.more" s_Finds_more f fd) : Mth P w K mg base CI "more" 1 ["self"] (spMore P w CI) := by
  refine ⟨f, fd, M, F.binds (ps := ["self"]) fun _ _ _ _ _ _ us hl => match us, hl with | [_], _ => rfl, ?_⟩
  refine F.ok sc_Finds_more (fun vs H Q E h => ?_) (fun cdv A outer s H vs Q E hr h => ?_)
  · obtain ⟨H0, x, lim, ts, tk, rfl, _⟩ := h
    rfl
  · obtain ⟨H0, x, lim, ts, tk, rfl, Ft, k⟩ := h
    refine ⟨_, (pss_one (ps_ret (pe_cmpR op_lt (pe_fldK (K := K) (pv 0) rfl) (pe_callB (cr_lenS (K := K)) rfl B.g_len PySem.boot_len (pa_cons (pe_fldK (K := K) (pv 0) rfl) pa_nil)) (nomark _)))), ?_⟩
    obtain ⟨dx, ls, D, h1, h2, h3, n1, n2, n3, h4⟩ := Ft.ex
    walk_at "rds"
    refine ⟨x, CI, dx, _, _, rfl, h1, T.cl, T.n_taken, fF_taken, ?_⟩
    walk_at "rd"
    refine ⟨x, CI, dx, _, _, rfl, h1, T.cl, T.n_things, fF_things, ?_⟩
    walk_at "rd"
    refine ⟨ls, _, rfl, .inl (SqL.of h2), ?_⟩
    rw [List.length_map]
    walk_at "rd"
    rw [show decide ((tk : Int) < (ts.length : Int)) = decide (tk < ts.length) from decide_eq_decide.mpr (by omega)]
    exact k _ (Same.refl _)
def spTake (P : Program) (w : World) (CI : Addr) : Sp := fun vs H Q _ => ∃ (H0 : Hp) (x : Addr) (lim : Int) (ts : List Th) (tk : Nat) (t : Th), vs = [.ref x] ∧ FAt P w CI H0 H x lim ts tk ∧ ts[tk]? = some t ∧ ∀ (p : Addr) (H' : Hp), H' p = some (.tup [.ref t.q, .ref t.wl]) → FAt P w CI H0 H' x lim ts (tk + 1) → Tk H H' → Q (.ref p) H'
theorem ok_take {f CI : Addr} {fd : FuncData} (B : BT mg) (T : FiC K mg CI) (M : Meth K CI "take" f) (F : Fun K "take" "Finds.take" s_Finds_take f fd) : Mth P w K mg base CI "take" 1 ["self"] (spTake P w CI) := by
  refine ⟨f, fd, M, F.binds (ps := ["self"]) fun _ _ _ _ _ _ us hl => match us, hl with | [_], _ => rfl, ?_⟩
  refine F.ok sc_Finds_take (fun vs H Q E h => ?_) (fun cdv A outer s H vs Q E hr h => ?_)
  · obtain ⟨H0, x, lim, ts, tk, t, rfl, _⟩ := h
    rfl
  · obtain ⟨H0, x, lim, ts, tk, t, rfl, Ft, ht, k⟩ := h
    refine ⟨_, (pss_cons (ps_set (i := 1) sc_Finds_take.nd rfl (Or.inl rfl) (pe_ix (r := rIxL K) ix_list (pe_fldK (K := K) (pv 0) rfl) (pe_fldK (K := K) (pv 0) rfl) (fun _ _ => rfl)))
 (pss_cons (ps_fldaug (pv 0) pe_int in_add)
 (pss_one (ps_ret (pe_tup (pa_cons (pv 1) (pa_cons (pe_ix (r := rIxN P w) (ix_dN hr.units) (pe_fldK (K := K) (pv 0) rfl) (pv 1) (fun _ _ => rfl)) pa_nil))))))), ?_⟩
    obtain ⟨dx, ls, D, h1, h2, h3, n1, n2, n3, h4⟩ := id Ft.ex
    have hlt : tk < ts.length := (List.getElem?_eq_some_iff.mp ht).1
    walk_at "rds"
    refine ⟨x, CI, dx, _, _, rfl, h1, T.cl, T.n_things, fF_things, ?_⟩
    walk_at "rd"
    refine ⟨x, CI, dx, _, _, rfl, h1, T.cl, T.n_taken, fF_taken, ?_⟩
    refine rd_ixL h2 (v := .ref t.q) (at_of rfl (by rw [List.getElem?_map, ht]; rfl)) ?_
    walk_at "rd"
    refine ⟨_, rfl, x, CI, dx, _, _, rfl, h1, T.cl, T.n_taken, fF_taken, ?_⟩
    walk_at "rd"
    refine ⟨_, _, rfl, rfl, dx, _, h1, by show 4 < 1000; decide, ?_⟩
    rw [putf_taken, show ((tk : Int) + 1) = ((tk + 1 : Nat) : Int) from by omega]
    have oth : ∀ (b : Addr) (o : HO), H b = some o → b ≠ x → upd H x (.ins CI dx (fF (.int lim) (.ref ls) (.ref D) (.int ((tk + 1 : Nat) : Int)))) b = some o := fun b o e ne => (upd_ne ne).trans e
    have tk1 := Tk.ins (o := .ins CI dx (fF (.int lim) (.ref ls) (.ref D) (.int ((tk + 1 : Nat) : Int)))) h1
    have F1 : FAt P w CI H0 (upd H x (.ins CI dx (fF (.int lim) (.ref ls) (.ref D) (.int ((tk + 1 : Nat) : Int))))) x lim ts (tk + 1) :=
      ⟨⟨dx, ls, D, upd_same, oth _ _ h2 (ne_of h2 h1 (fun z => nomatch z)), oth _ _ h3 (ne_of h3 h1 (fun z => nomatch z)), n1, n2, n3, fun u hu => ⟨oth _ _ (h4 u hu).1 (ne_of (h4 u hu).1 h1 (fun z => nomatch z)), (h4 u hu).2⟩⟩, fun u hu => ⟨(Ft.ks u hu).1.keep tk1, (Ft.ks u hu).2⟩, same_put Ft.sm n1, Ft.nd⟩
    have h1' : upd H x (.ins CI dx (fF (.int lim) (.ref ls) (.ref D) (.int ((tk + 1 : Nat) : Int)))) x = some (.ins CI dx (fF (.int lim) (.ref ls) (.ref D) (.int ((tk + 1 : Nat) : Int)))) := upd_same
    have h3' := oth _ _ h3 (ne_of h3 h1 (fun z => nomatch z))
    generalize upd H x (.ins CI dx (fF (.int lim) (.ref ls) (.ref D) (.int ((tk + 1 : Nat) : Int)))) = H1 at tk1 F1 h1' h3'
    walk_at "rd"
    refine ⟨x, CI, dx, _, _, rfl, h1', T.cl, T.n_ways, fF_ways, ?_⟩
    walk_at "rd"
    have hm := List.mem_of_getElem? ht
    refine ⟨t.q, D, t.k, _, .ref t.wl, rfl, rfl, h3', F1.keys, (F1.ks t hm).1, (F1.ks t hm).2, at_nd F1.nd ht, ?_⟩
    walk_at "rd"
    intro p hp
    have s2 := same_upd (o := .tup [.ref t.q, .ref t.wl]) hp
    exact k p _ upd_same (F1.same s2) (tk1.trans (Tk.of s2))
def spPut (P : Program) (w : World) (CI TM : Addr) : Sp := fun vs H Q E => ∃ (H0 Hb : Hp) (x q wl : Addr) (lim : Int) (ts : List Th) (tk : Nat) (k : NestedKey) (ns : List Int), vs = [.ref x, .ref q, .ref wl] ∧ FAt P w CI H0 Hb x lim ts tk ∧ Hb wl = none ∧ Same Hb H ∧ H wl = some (.lst (ns.map V.int)) ∧ Rp H (.ref q) k.data ∧ k.depth ≤ 8 ∧ ts.length ≤ 900 ∧ lim.natAbs.log2 < 1920 ∧
  (k ∈ ts.map Th.k → ∀ H', Same H H' → Q .non H') ∧ (k ∉ ts.map Th.k → (ts.length : Int) < lim → ∀ H', FAt P w CI H0 H' x lim (ts ++ [⟨k, q, wl, ns⟩]) tk → Tk H H' → Q .non H') ∧
  (k ∉ ts.map Th.k → lim ≤ (ts.length : Int) → ∀ (d : Addr) (H' : Hp), H d = none → H' d = some (.xd [("what", .int lim)]) → Same H H' → E (.ref TM) (some d) H')
theorem ok_put {f CI TM : Addr} {fd : FuncData} (B : BT mg) (T : FiC K mg CI) (X_TM : Exk P w K mg base "TooMany" TM) (M : Meth K CI "put" f) (F : Fun K "put" "Finds.put" s_Finds_put f fd) : MthR P w K mg base CI "put" 4 ["self", "thing", "way"] (spPut P w CI TM) := by
  refine ⟨f, fd, M, F.binds (ps := ["self", "thing", "way"]) fun _ _ _ _ _ _ us hl => match us, hl with | [_, _, _], _ => rfl, ?_⟩
  refine F.okX sc_Finds_put (fun vs H Q E h => ?_) (fun cdv A outer s H vs Q E hr h => ?_)
  · obtain ⟨H0, Hb, x, q, wl, lim, ts, tk, k, ns, rfl, _⟩ := h
    rfl
  · obtain ⟨H0, Hb, x, q, wl, lim, ts, tk, k, ns, rfl, Fb, nwl, sb, hwl, rk, dk, l9, hlim, K1, K2, K3⟩ := h
    refine ⟨_, (pss_cons (ps_if (pt_cmpR (op_inN hr.units) (pv 1) (pe_fldK (K := K) (pv 0) rfl) (by rfl)) (pss_one ps_retN) pss_nil)
 (pss_cons (ps_if (pt_cmpR op_ge (pe_callB (cr_lenS (K := K)) rfl B.g_len PySem.boot_len (pa_cons (pe_fldK (K := K) (pv 0) rfl) pa_nil)) (pe_fldK (K := K) (pv 0) rfl) (nomark _)) (pss_one (ps_raisew X_TM rfl (takes_of rfl rfl rfl rfl) (hr.mono (by omega)) rfl (pe_fldK (K := K) (pv 0) rfl))) pss_nil)
 (pss_cons (ps_expr (pe_bm PySem.F.plainAttrs_list PySem.F.slot_list_append PySem.F.type_list_append mt_append (pe_fldK (K := K) (pv 0) rfl) (pa_cons (pv 1) pa_nil)))
 (pss_one (ps_asg (pv 2) (pg_sub (pe_fldK (K := K) (pv 0) rfl) (pv 1) (set_dN hr.units))))))), ?_⟩
    have Ft := Fb.same sb
    obtain ⟨dx, ls, D, h1, h2, h3, n1, n2, n3, h4⟩ := id Ft.ex
    walk_at "rds"
    refine ⟨x, CI, dx, _, _, rfl, h1, T.cl, T.n_ways, fF_ways, ?_⟩
    refine ⟨q, D, k, _, rfl, rfl, h3, Ft.keys, rk, dk, ?_⟩
    rw [some_N]
    walk_at "rd"
    refine rd_ifd (fun hm => ?_) (fun hm => ?_)
    · walk_at "rd"
      exact K1 hm _ (Same.refl _)
    walk_at "rd"
    refine ⟨x, CI, dx, _, _, rfl, h1, T.cl, T.n_things, fF_things, ?_⟩
    walk_at "rd"
    refine ⟨ls, _, rfl, .inl (SqL.of h2), ?_⟩
    rw [List.length_map]
    walk_at "rd"
    refine ⟨x, CI, dx, _, _, rfl, h1, T.cl, T.n_limit, fF_limit, ?_⟩
    walk_at "rd"
    refine rd_ifd (fun hl => ?_) (fun hl => ?_)
    · walk_at "rd"
      refine ⟨x, CI, dx, _, _, rfl, h1, T.cl, T.n_limit, fF_limit, ?_⟩
      exact rd_mko (R := fun d H' => E (.ref TM) d H') X_TM.oex X_TM.wh (.inr ⟨lim, rfl, hlim⟩) fun d hd => K3 hm hl d _ hd upd_same (same_upd hd)
    walk_at "rd"
    refine ⟨x, CI, dx, _, _, rfl, h1, T.cl, T.n_things, fF_things, ?_⟩
    walk_at "rd"
    refine rd_append h2 (by rw [List.length_map]; exact small1000 (by omega)) ?_
    have oth1 : ∀ (b : Addr) (o : HO), H b = some o → b ≠ ls → upd H ls (.lst ((ts.map fun t => V.ref t.q) ++ [.ref q])) b = some o := fun b o e ne => (upd_ne ne).trans e
    have tk1 : Tk H (upd H ls (.lst ((ts.map fun t => V.ref t.q) ++ [.ref q]))) := Tk.lst h2
    have a1 := oth1 _ _ h1 (ne_of h1 h2 (fun z => nomatch z))
    have a3 := oth1 _ _ h3 (ne_of h3 h2 (fun z => nomatch z))
    have a2 : upd H ls (.lst ((ts.map fun t => V.ref t.q) ++ [.ref q])) ls = some (.lst ((ts.map fun t => V.ref t.q) ++ [.ref q])) := upd_same
    have nwls : wl ≠ ls := by
      obtain ⟨_, ls', _, g1, g2, _⟩ := id Fb.ex
      have e := sb _ _ g1
      rw [h1] at e
      simp only [fF, Option.some.injEq, HO.ins.injEq, List.cons.injEq, Prod.mk.injEq, V.ref.injEq, true_and] at e
      obtain ⟨_, e1, _⟩ := e
      rw [e1]
      exact Ne.symm (ne_of_none g2 nwl)
    have aw := oth1 _ _ hwl nwls
    have a4 : ∀ t ∈ ts, upd H ls (.lst ((ts.map fun t => V.ref t.q) ++ [.ref q])) t.wl = some (.lst (t.ns.map V.int)) := fun t ht => oth1 _ _ (h4 t ht).1 (h4 t ht).2.2
    have sm1 := same_put (o := .lst ((ts.map fun t => V.ref t.q) ++ [.ref q])) Ft.sm n2
    have ks1 : KeysN (upd H ls (.lst ((ts.map fun t => V.ref t.q) ++ [.ref q]))) (ts.map Th.e) := Ft.keys.keep tk1
    have rk1 := rk.keep tk1
    generalize upd H ls (.lst ((ts.map fun t => V.ref t.q) ++ [.ref q])) = H1 at tk1 a1 a2 a3 aw a4 sm1 ks1 rk1
    walk_at "rd"
    refine ⟨x, CI, dx, _, _, rfl, a1, T.cl, T.n_ways, fF_ways, ?_⟩
    walk_at "rd"
    refine ⟨q, D, k, _, rfl, rfl, a3, ks1, rk1, dk, ?_, by rw [List.length_map]; omega, ?_⟩
    · cases e : valN (ts.map Th.e) k with
      | none => rfl
      | some z =>
        have := some_N (k := k) (ts := ts)
        rw [e] at this
        exact absurd (of_decide_eq_true this.symm) hm
    have oth2 : ∀ (b : Addr) (o : HO), H1 b = some o → b ≠ D → upd H1 D (dN P w D (ts.map Th.e ++ [(k, q, .ref wl)])) b = some o := fun b o e ne => (upd_ne ne).trans e
    have tk2 : Tk H1 (upd H1 D (dN P w D (ts.map Th.e ++ [(k, q, .ref wl)]))) := fun b xs e => oth2 _ _ e (ne_of e a3 (fun z => nomatch z))
    refine K2 hm (by omega) _ ⟨⟨dx, ls, D, oth2 _ _ a1 (ne_of a1 a3 (fun z => nomatch z)), ?_, ?_, n1, n2, n3, fun t ht => ?_⟩, fun t ht => ?_, same_put sm1 n3, ?_⟩ (tk1.trans tk2)
    · rw [List.map_append]
      exact oth2 _ _ a2 (ne_of a2 a3 (fun z => nomatch z))
    · rw [List.map_append]
      exact upd_same
    · rcases List.mem_append.mp ht with h | h
      · exact ⟨oth2 _ _ (a4 t h) (ne_of (a4 t h) a3 (fun z => nomatch z)), (h4 t h).2⟩
      · rw [List.mem_singleton.mp h]
        exact ⟨oth2 _ _ aw (ne_of aw a3 (fun z => nomatch z)), Fb.sm.free nwl, nwls⟩
    · rcases List.mem_append.mp ht with h | h
      · exact ⟨(Ft.ks t h).1.keep (tk1.trans tk2), (Ft.ks t h).2⟩
      · rw [List.mem_singleton.mp h]
        exact ⟨rk1.keep tk2, dk⟩
    · rw [List.map_append]
      exact List.nodup_append.mpr ⟨Ft.nd, by simp, fun a ha b hb e => by
        rw [List.map_cons, List.map_nil, List.mem_singleton] at hb
        exact hm (by rw [← show b = k from hb, ← e]; exact ha)⟩
end
open PySem PySem.Spec L2
section
variable {P : Program} {w : World} {K : PySem.W.Frag} {mg : Str → Option Value} {base : Heap}
abbrev Ln := List (Sd × List Int)
def stepD (xs : List Sg) (b : Int) (rs : List Rw) (s : Sd) (j : Nat) : Sd := (deedR xs b 100 (initR s) (rs.getD j ⟨"return", []⟩).op (rs.getD j ⟨"return", []⟩).ns).1.sd s.ring
def putB (lc : Int) (L : Ln) (s : Sd) (way : List Int) : Option Ln := if s.k ∈ L.map (fun e => e.1.k) then some L else if (L.length : Int) < lc then some (L ++ [(s, way)]) else none
inductive BR where
  | many
  | hit (L : Ln) (way : List Int)
  | run (L : Ln)
def rowB (f : Nat → Sd) (hit : Sd → Bool) (lc : Int) (ways : List Int) : List Nat → Ln → BR
  | [], L => .run L
  | j :: js, L => match putB lc L (f j) (ways ++ [(j : Int)]) with
    | none => .many
    | some L' => if hit (f j) = true then .hit L' (ways ++ [(j : Int)]) else rowB f hit lc ways js L'
def bfsB (f : Sd → Nat → Sd) (hit : Sd → Bool) (lc : Int) (m : Nat) : Nat → Nat → Ln → BR
  | 0, _, L => .run L
  | n + 1, tk, L => match L[tk]? with
    | none => .run L
    | some e => match rowB (f e.1) hit lc e.2 (List.range m) L with
      | .run L' => bfsB f hit lc m n (tk + 1) L'
      | .many => .many
      | .hit L' w => .hit L' w
theorem bfsB_at {f : Sd → Nat → Sd} {hit : Sd → Bool} {lc : Int} {m n tk : Nat} {L : Ln} {e : Sd × List Int} (he : L[tk]? = some e) : bfsB f hit lc m (n + 1) tk L = match rowB (f e.1) hit lc e.2 (List.range m) L with
      | .run L' => bfsB f hit lc m n (tk + 1) L'
      | .many => .many
      | .hit L' w => .hit L' w := by
  show (match L[tk]? with | none => BR.run L | some e => _) = _
  rw [he]
theorem bfsB_end {f : Sd → Nat → Sd} {hit : Sd → Bool} {lc : Int} {m n tk : Nat} {L : Ln} (he : L[tk]? = none) : bfsB f hit lc m n tk L = .run L := by
  cases n with
  | zero => rfl
  | succ n =>
    show (match L[tk]? with | none => BR.run L | some e => _) = _
    rw [he]
theorem rowB_at {f : Nat → Sd} {hit : Sd → Bool} {lc : Int} {ways : List Int} {m j : Nat} {L : Ln} (hj : j < m) : rowB f hit lc ways ((List.range m).drop j) L = match putB lc L (f j) (ways ++ [(j : Int)]) with
    | none => .many
    | some L' => if hit (f j) = true then .hit L' (ways ++ [(j : Int)]) else rowB f hit lc ways ((List.range m).drop (j + 1)) L' := by
  rw [List.drop_eq_getElem_cons (by rw [List.length_range]; exact hj), List.getElem_range]
  rfl
def bfs0 (f : Sd → Nat → Sd) (hit : Sd → Bool) (lc : Int) (m : Nat) (s : Sd) : BR := if hit s = true then .hit [(s, [])] [] else bfsB f hit lc m 901 0 [(s, [])]
/-- the things and ways of a Finds are those of a line -/
def TL (ts : List Th) (L : Ln) : Prop := ts.map (fun t => (t.k, t.ns)) = L.map fun e => (e.1.k, e.2)
theorem TL.len {ts : List Th} {L : Ln} (h : TL ts L) : ts.length = L.length := by
  have := congrArg List.length h
  simpa using this
theorem TL.keys {ts : List Th} {L : Ln} (h : TL ts L) : ts.map Th.k = L.map fun e => e.1.k := by
  have := congrArg (List.map Prod.fst) h
  rw [List.map_map, List.map_map] at this
  exact this
theorem TL.get {ts : List Th} {L : Ln} (h : TL ts L) {i : Nat} {e : Sd × List Int} (he : L[i]? = some e) : ∃ t, ts[i]? = some t ∧ t.k = e.1.k ∧ t.ns = e.2 := by
  have h1 : (ts.map fun t => (t.k, t.ns))[i]? = some (e.1.k, e.2) := by rw [h, List.getElem?_map, he]; rfl
  rw [List.getElem?_map] at h1
  obtain ⟨t, ht, e1⟩ := Option.map_eq_some_iff.mp h1
  injection e1 with a b
  exact ⟨t, ht, a, b⟩
theorem TL.snoc {ts : List Th} {L : Ln} (h : TL ts L) {k : NestedKey} {q wl : Addr} {ns : List Int} {s : Sd} (hk : k = s.k) : TL (ts ++ [⟨k, q, wl, ns⟩]) (L ++ [(s, ns)]) := by
  unfold TL at h ⊢
  rw [List.map_append, List.map_append, h, hk]
  rfl
/-- the things, as data -/
theorem TL.rp {H : Hp} : ∀ {ts : List Th} {L : Ln}, TL ts L → (∀ t ∈ ts, Rp H (.ref t.q) t.k.data ∧ t.k.depth ≤ 8) → RpAll H (ts.map fun t => V.ref t.q) (L.map fun e => e.1.d)
  | [], [], _, _ => .nil
  | t :: ts, e :: L, h, ks => by
    unfold TL at h
    rw [List.map_cons, List.map_cons] at h
    injection h with h1 h2
    injection h1 with h3 h4
    refine .cons ?_ (TL.rp h2 fun t ht => ks t (List.mem_cons_of_mem _ ht))
    have := (ks t List.mem_cons_self).1
    rw [h3, Sd.k_d] at this
    exact this
  | [], _ :: _, h, _ => by simp [TL] at h
  | _ :: _, [], h, _ => by simp [TL] at h
end
open PySem PySem.Spec L2
open PySem PySem.Spec L2
section
variable {P : Program} {w : World} {K : PySem.W.Frag} {mg : Str → Option Value} {base : Heap}
def causesL : List Str := ["pointer", "bounds", "read", "write", "kind", "run", "entry", "gate", "call", "deep", "row", "hand", "long"]
def earlyL : List Str := ["pointer", "run", "entry", "gate", "call"]
structure Spot (xs : List Sg) (s : Rn) (e g p : Int) : Prop where
  g0 : 0 ≤ g
  gN : g < (xs.length : Int)
  p0 : 0 ≤ p
  pN : p < ((s.mem g).length : Int)
  r : ∃ r pl, some (r, g, pl) ∈ s.pt ∧ e = mx s.ring r
structure Pln (op : Str) : Prop where
  c : op ≠ "call"
  r : op ≠ "return"
inductive Eff (xs : List Sg) (b : Int) (op : Str) (s : Rn) : Rn → Option Str → Prop
  | flt (c : Str) : c ∈ causesL → (op = "call" → c ∈ earlyL ∨ 8 ≤ s.ca.length) → Eff xs b op s s (some c)
  | kind (e g p : Int) : Pln op → Spot xs s e g p → mRead (sgAt xs g) e = true → Eff xs b op s (s.touch e g p "r") (some "kind")
  | num (n : Int) : Pln op → 0 ≤ n → n < b → Eff xs b op s { s with a := n } none
  | load (e g p n : Int) : Pln op → Spot xs s e g p → mRead (sgAt xs g) e = true → s.wordAt g p = .num n → Eff xs b op s { s.touch e g p "r" with a := n } none
  | fetch (e g p r g' p' q : Int) : Pln op → Spot xs s e g p → mRead (sgAt xs g) e = true → s.wordAt g p = .ptr r g' p' → Eff xs b op s ((s.touch e g p "r").ptrSet q (some (mx (mx r e) (sgAt xs g).r1, g', p'))) none
  | write (e g p : Int) (x : Wd) : Pln op → Spot xs s e g p → mWrite (sgAt xs g) e = true → (x = .num s.a ∨ ∃ r g' p', some (r, g', p') ∈ s.pt ∧ x = .ptr r g' p') → Eff xs b op s ((s.touch e g p "w").put g p x) none
  | aim (q g p : Int) : Pln op → 0 ≤ g → g < (xs.length : Int) → 0 ≤ p → Eff xs b op s (s.ptrSet q (some (s.ring, g, p))) none
  | move (q r g p p' : Int) : Pln op → some (r, g, p) ∈ s.pt → 0 ≤ p' → Eff xs b op s (s.ptrSet q (some (r, g, p'))) none
  | jump (g p j : Int) : Pln op → s.wh = some (g, p) → Eff xs b op s { s with wh := some (g, j) } none
  | stay : Pln op → s.wh ≠ none → Eff xs b op s s none
  | call (r g pl e : Int) : op = "call" → some (r, g, pl) ∈ s.pt → enteredR (sgAt xs g) pl (mx s.ring r) = .ok e → s.ca.length < 8 → Eff xs b op s (({ s with ca := s.ca ++ [(s.ring, s.wh)] } : Rn).enter e (some (g, pl))) none
  | ret (r : Int) (w : Option (Int × Int)) (x : Int × Int) : op = "return" → s.wh = some x → s.ca.getLast? = some (r, w) → Eff xs b op s (({ s with ca := s.ca.dropLast } : Rn).enter r w) none
theorem spot_r {s : Rn} {p w e g pl : Int} {xs : List Sg} (wf : WF xs s) (p0 : 0 ≤ p) (p4 : p < 4) (h : spotR s p w = .ok (e, g, pl)) : Spot xs s e g pl := by
  obtain ⟨a1, a2, a3, a4⟩ := spot_in wf p0 p4 h
  refine ⟨a1, a2, a3, a4, ?_⟩
  unfold spotR at h
  cases e1 : s.ptr p with
  | none => rw [e1] at h; cases h
  | some z =>
    obtain ⟨r1, g1, pl1⟩ := z
    rw [e1] at h
    dsimp only at h
    split at h
    · cases h
      exact ⟨r1, pl1, ptr_mem wf.pt4 p0 p4 e1, rfl⟩
    · cases h
theorem spot_c {s : Rn} {p w : Int} {c : Str} (h : spotR s p w = .error c) : c ∈ causesL := by
  unfold spotR at h
  cases e : s.ptr p with
  | none => rw [e] at h; cases h; decide +kernel
  | some z =>
    obtain ⟨r, g, pl⟩ := z
    rw [e] at h
    dsimp only at h
    split at h
    · cases h
    · cases h; decide +kernel
theorem read_c {xs : List Sg} {s : Rn} {p w : Int} {c : Str} (h : readR xs s p w = .error c) : c ∈ causesL := by
  unfold readR at h
  cases hs : spotR s p w with
  | error c => rw [hs] at h; cases h; exact spot_c hs
  | ok z =>
    obtain ⟨e1, g1, pl⟩ := z
    rw [hs] at h
    dsimp only at h
    split at h
    · cases h
    · cases h; decide +kernel
theorem read_r {xs : List Sg} {s s' : Rn} {p w e g : Int} {wd : Wd} (wf : WF xs s) (p0 : 0 ≤ p) (p4 : p < 4) (h : readR xs s p w = .ok (wd, e, g, s')) : ∃ pl, Spot xs s e g pl ∧ mRead (sgAt xs g) e = true ∧ wd = s.wordAt g pl ∧ s' = s.touch e g pl "r" := by
  unfold readR at h
  cases hs : spotR s p w with
  | error c => rw [hs] at h; cases h
  | ok z =>
    obtain ⟨e1, g1, pl⟩ := z
    rw [hs] at h
    dsimp only at h
    by_cases hc : mRead (sgAt xs g1) e1 = true
    · rw [if_pos hc] at h
      cases h
      exact ⟨pl, spot_r wf p0 p4 hs, hc, rfl, rfl⟩
    · rw [if_neg hc] at h
      cases h
theorem write_e {xs : List Sg} {b : Int} {op : Str} {s s' : Rn} {o : Option Str} {p w : Int} {wd : Wd} (wf : WF xs s) (p0 : 0 ≤ p) (p4 : p < 4) (pl : Pln op) (hw : wd = .num s.a ∨ ∃ r g' p', some (r, g', p') ∈ s.pt ∧ wd = .ptr r g' p') (h : writeR xs s p w wd = (s', o)) : Eff xs b op s s' o := by
  unfold writeR at h
  cases hs : spotR s p w with
  | error c => rw [hs] at h; cases h; exact .flt _ (spot_c hs) fun z => absurd z pl.c
  | ok z =>
    obtain ⟨e1, g1, pl1⟩ := z
    rw [hs] at h
    dsimp only at h
    by_cases hc : mWrite (sgAt xs g1) e1 = true
    · rw [if_pos hc] at h
      cases h
      exact .write _ _ _ _ pl (spot_r wf p0 p4 hs) hc hw
    · rw [if_neg hc] at h
      cases h
      exact .flt _ (by decide +kernel) fun z => absurd z pl.c
theorem ent_c {x : Sg} {pl e : Int} {c : Str} (h : enteredR x pl e = .error c) : c ∈ earlyL := by
  unfold enteredR at h
  split at h
  · cases h; decide +kernel
  split at h
  · cases h; decide +kernel
  split at h
  · cases h
  split at h
  · cases h; decide +kernel
  split at h
  · cases h; decide +kernel
  · cases h
theorem early_all : ∀ c ∈ earlyL, c ∈ causesL := by decide +kernel
theorem eff_of {xs : List Sg} {b : Int} {s s' : Rn} {o : Option Str} {op : Str} {ns : List Int} (wf : WF xs s) (b2 : 2 ≤ b) (ho : op ∈ actOps) (hk : okOf op xs ns) (h : fnOf op xs b s ns = (s', o)) : Eff xs b op s s' o := by
  unfold actOps at ho
  simp only [List.mem_cons, List.not_mem_nil, or_false] at ho
  rcases ho with rfl | rfl | rfl | rfl | rfl | rfl | rfl | rfl | rfl | rfl | rfl | rfl
  · rw [fn_set] at h
    cases h
    exact .num _ ⟨by decide +kernel, by decide +kernel⟩ (Int.emod_nonneg _ (by omega)) (Int.emod_lt_of_pos _ (by omega))
  · rw [fn_add] at h
    cases h
    exact .num _ ⟨by decide +kernel, by decide +kernel⟩ (Int.emod_nonneg _ (by omega)) (Int.emod_lt_of_pos _ (by omega))
  · have pl : Pln "load" := ⟨by decide +kernel, by decide +kernel⟩
    rw [fn_load] at h
    rw [ko_load] at hk
    obtain ⟨p, w, rfl, p0, p4⟩ := hk
    replace h : rLoad xs s p w = (s', o) := h
    unfold rLoad at h
    cases hr : readR xs s p w with
    | error c => rw [hr] at h; cases h; exact .flt _ (read_c hr) fun z => absurd z pl.c
    | ok z =>
      obtain ⟨wd, e, g, s1⟩ := z
      obtain ⟨pp, h1, h2, h3, rfl⟩ := read_r wf p0 p4 hr
      rw [hr] at h
      cases wd with
      | num n => cases h; exact .load _ _ _ _ pl h1 h2 h3.symm
      | ptr a1 a2 a3 => cases h; exact .kind _ _ _ pl h1 h2
  · have pl : Pln "store" := ⟨by decide +kernel, by decide +kernel⟩
    rw [fn_store] at h
    rw [ko_store] at hk
    obtain ⟨p, w, rfl, p0, p4⟩ := hk
    exact write_e (wd := .num s.a) wf p0 p4 pl (.inl rfl) h
  · have pl : Pln "fetch" := ⟨by decide +kernel, by decide +kernel⟩
    rw [fn_fetch] at h
    rw [ko_fetch] at hk
    obtain ⟨q, p, w, rfl, q0, q4, p0, p4⟩ := hk
    replace h : rFetch xs s q p w = (s', o) := h
    unfold rFetch at h
    cases hr : readR xs s p w with
    | error c => rw [hr] at h; cases h; exact .flt _ (read_c hr) fun z => absurd z pl.c
    | ok z =>
      obtain ⟨wd, e, g, s1⟩ := z
      obtain ⟨pp, h1, h2, h3, rfl⟩ := read_r wf p0 p4 hr
      rw [hr] at h
      cases wd with
      | num n => cases h; exact .kind _ _ _ pl h1 h2
      | ptr a1 a2 a3 => cases h; exact .fetch _ _ _ _ _ _ _ pl h1 h2 h3.symm
  · have pl : Pln "keep" := ⟨by decide +kernel, by decide +kernel⟩
    rw [fn_keep] at h
    rw [ko_keep] at hk
    obtain ⟨q, p, w, rfl, q0, q4, p0, p4⟩ := hk
    replace h : rKeep xs s q p w = (s', o) := h
    unfold rKeep at h
    cases e : s.ptr q with
    | none => rw [e] at h; cases h; exact .flt _ (by decide +kernel) fun z => absurd z pl.c
    | some z =>
      obtain ⟨r1, g1, pl1⟩ := z
      rw [e] at h
      exact write_e wf p0 p4 pl (.inr ⟨_, _, _, ptr_mem wf.pt4 q0 q4 e, rfl⟩) h
  · have pl : Pln "aim" := ⟨by decide +kernel, by decide +kernel⟩
    rw [fn_aim] at h
    rw [ko_aim] at hk
    obtain ⟨q, g, w, rfl, q0, q4, g0, gN⟩ := hk
    replace h : rAim s q g w = (s', o) := h
    unfold rAim at h
    by_cases hw : w < 0
    · rw [if_pos hw] at h; cases h; exact .flt _ (by decide +kernel) fun z => absurd z pl.c
    · rw [if_neg hw] at h
      cases h
      exact .aim _ _ _ pl g0 gN (by omega)
  · have pl : Pln "move" := ⟨by decide +kernel, by decide +kernel⟩
    rw [fn_move] at h
    rw [ko_move] at hk
    obtain ⟨q, p, n, rfl, q0, q4, p0, p4⟩ := hk
    replace h : rMove s q p n = (s', o) := h
    unfold rMove at h
    cases e : s.ptr p with
    | none => rw [e] at h; cases h; exact .flt _ (by decide +kernel) fun z => absurd z pl.c
    | some z =>
      obtain ⟨r1, g1, pl1⟩ := z
      rw [e] at h
      dsimp only at h
      by_cases hw : pl1 + n < 0
      · rw [if_pos hw] at h; cases h; exact .flt _ (by decide +kernel) fun z => absurd z pl.c
      · rw [if_neg hw] at h
        cases h
        exact .move _ _ _ _ _ pl (ptr_mem wf.pt4 p0 p4 e) (by omega)
  · have pl : Pln "zero" := ⟨by decide +kernel, by decide +kernel⟩
    rw [fn_zero] at h
    replace h : rZero s (one ns) = (s', o) := h
    unfold rZero at h
    cases e : s.wh with
    | none => rw [e] at h; cases h; exact .flt _ (by decide +kernel) fun z => absurd z pl.c
    | some z =>
      obtain ⟨g1, pl1⟩ := z
      rw [e] at h
      dsimp only at h
      by_cases hw : s.a = 0
      · rw [if_pos hw] at h
        cases h
        exact .jump _ _ _ pl e
      · rw [if_neg hw] at h
        cases h
        exact .stay pl (by rw [e]; exact fun z => nomatch z)
  · have pl : Pln "go" := ⟨by decide +kernel, by decide +kernel⟩
    rw [fn_go] at h
    replace h : rGo s (one ns) = (s', o) := h
    unfold rGo at h
    cases e : s.wh with
    | none => rw [e] at h; cases h; exact .flt _ (by decide +kernel) fun z => absurd z pl.c
    | some z =>
      obtain ⟨g1, pl1⟩ := z
      rw [e] at h
      cases h
      exact .jump _ _ _ pl e
  · rw [fn_call] at h
    rw [ko_call] at hk
    obtain ⟨p, rfl, p0, p4⟩ := hk
    replace h : rCall xs s p = (s', o) := h
    unfold rCall at h
    cases e : s.ptr p with
    | none => rw [e] at h; cases h; exact .flt _ (by decide +kernel) fun _ => .inl (by decide +kernel)
    | some z =>
      obtain ⟨r1, g1, pl1⟩ := z
      rw [e] at h
      dsimp only at h
      cases e2 : enteredR (sgAt xs g1) pl1 (mx s.ring r1) with
      | error c => rw [e2] at h; cases h; exact .flt _ (early_all _ (ent_c e2)) fun _ => .inl (ent_c e2)
      | ok e3 =>
        rw [e2] at h
        dsimp only at h
        by_cases h8 : 8 ≤ s.ca.length
        · rw [if_pos h8] at h; cases h; exact .flt _ (by decide +kernel) fun _ => .inr h8
        · rw [if_neg h8] at h
          cases h
          exact .call _ _ _ _ rfl (ptr_mem wf.pt4 p0 p4 e) e2 (by omega)
  · rw [fn_return] at h
    replace h : rRet s = (s', o) := h
    unfold rRet at h
    cases e : s.wh with
    | none => rw [e] at h; cases h; exact .flt _ (by decide +kernel) fun z => absurd z (by decide +kernel)
    | some z =>
      obtain ⟨g1, pl1⟩ := z
      rw [e] at h
      dsimp only at h
      cases e2 : s.ca.getLast? with
      | none => rw [e2] at h; cases h; exact .flt _ (by decide +kernel) fun z => absurd z (by decide +kernel)
      | some c =>
        obtain ⟨r, w⟩ := c
        rw [e2] at h
        cases h
        exact .ret _ _ _ rfl e e2
/-- the rows that run, with what holds ahead of each -/
inductive GoEnd (xs : List Sg) (b : Int) (I : Rn → Prop) (s' : Rn) (o : Option Str) : Prop
  | fin : o = none → s'.wh = none → WF xs s' → I s' → GoEnd xs b I s' o
  | out (g p : Int) : s'.wh = some (g, p) → WF xs s' → I s' → (o = some "row" ∨ o = some "long") → GoEnd xs b I s' o
  | bad (s : Rn) (g p : Int) (c : Str) : s.wh = some (g, p) → 0 ≤ p → p < ((sgAt xs g).rs.length : Int) → WF xs s → WF xs (s.stepTo g p) → I s → o = some c → Eff xs b (rowAt xs g p).op (s.stepTo g p) s' o → GoEnd xs b I s' o
theorem go_ind {xs : List Sg} {b : Int} {I : Rn → Prop} (b2 : 2 ≤ b) (hs : ∀ x ∈ xs, SgForm x ∧ sgFits x b xs.length = true) (st : ∀ (s : Rn) (g p : Int) (s' : Rn), s.wh = some (g, p) → 0 ≤ p → p < ((sgAt xs g).rs.length : Int) → WF xs s → WF xs (s.stepTo g p) → WF xs s' → I s → Eff xs b (rowAt xs g p).op (s.stepTo g p) s' none → I s') :
    ∀ (n : Nat) (s s' : Rn) (o : Option Str), WF xs s → s.to.length + n ≤ 1999 → s.st.length + n ≤ 900 → I s → goR xs b n s = (s', o) → GoEnd xs b I s' o
  | 0, s, s', o, wf, h1, h2, hi, h => by
    unfold goR at h
    cases e : s.wh with
    | none =>
      rw [e] at h
      cases h
      exact .fin rfl e wf hi
    | some z =>
      obtain ⟨g, p⟩ := z
      rw [e] at h
      dsimp only at h
      split at h <;> cases h
      · exact .out g p e wf hi (.inr rfl)
      · exact .out g p e wf hi (.inl rfl)
  | n + 1, s, s', o, wf, h1, h2, hi, h => by
    unfold goR at h
    cases e : s.wh with
    | none =>
      rw [e] at h
      cases h
      exact .fin rfl e wf hi
    | some z =>
      obtain ⟨g, p⟩ := z
      obtain ⟨g0, gN⟩ := wf.wh g p e
      rw [e] at h
      dsimp only at h
      by_cases hin : 0 ≤ p ∧ p < ((sgAt xs g).rs.length : Int)
      · rw [if_pos hin] at h
        obtain ⟨o1, o2⟩ := row_in hs g0 gN hin
        have wf6 := wf_step wf e (by omega)
        cases e7 : fnOf (rowAt xs g p).op xs b (s.stepTo g p) (rowAt xs g p).ns with
        | mk s7 o7 =>
          rw [e7] at h
          have E := eff_of wf6 b2 o1 o2 e7
          cases o7 with
          | some c =>
            cases h
            exact .bad s g p c e hin.1 hin.2 wf wf6 hi rfl E
          | none =>
            have G := wf_keep wf6 (show s.to.length ≤ 1999 by omega) o1 o2 e7
            refine go_ind b2 hs st n s7 s' o G.wf ?_ ?_ (st s g p s7 e hin.1 hin.2 wf wf6 G.wf hi E) h
            · have := G.to
              have e8 : (s.stepTo g p).to.length = s.to.length := rfl
              omega
            · rw [G.st]
              show (s.st ++ [_]).length + n ≤ 900
              rw [List.length_append]
              show s.st.length + 1 + n ≤ 900
              omega
      · rw [if_neg hin] at h
        cases h
        exact .out g p e wf hi (.inl rfl)
/-- a deed of the hand: how it ends -/
inductive DeedEnd (xs : List Sg) (b : Int) (sd : Sd) (op : Str) (I : Rn → Prop) (s' : Rn) (o : Option Str) : Prop
  | flt (c : Str) (s1 : Rn) : o = some c → Eff xs b op (initR sd) s1 (some c) → s' = s1.lost → DeedEnd xs b sd op I s' o
  | run (s1 s2 : Rn) : Eff xs b op (initR sd) s1 none → WF xs s1 → I s1 → GoEnd xs b I s2 o → s' = (if o = none then s2 else s2.lost) → DeedEnd xs b sd op I s' o
theorem deed_ind {xs : List Sg} {b : Int} {I : Rn → Prop} {sd : Sd} {op : Str} {ns : List Int} {n : Nat} (b2 : 2 ≤ b) (hs : ∀ x ∈ xs, SgForm x ∧ sgFits x b xs.length = true) (wf : WF xs (initR sd)) (ho : op ∈ actOps) (hk : okOf op xs ns) (hn : n ≤ 800)
    (h0 : ∀ s1, WF xs s1 → Eff xs b op (initR sd) s1 none → I s1)
    (st : ∀ (s : Rn) (g p : Int) (s' : Rn), s.wh = some (g, p) → 0 ≤ p → p < ((sgAt xs g).rs.length : Int) → WF xs s → WF xs (s.stepTo g p) → WF xs s' → I s → Eff xs b (rowAt xs g p).op (s.stepTo g p) s' none → I s') :
    DeedEnd xs b sd op I (deedR xs b n (initR sd) op ns).1 (deedR xs b n (initR sd) op ns).2 := by
  unfold deedR
  cases e : fnOf op xs b (initR sd) ns with
  | mk s1 o =>
    have E := eff_of wf b2 ho hk e
    cases o with
    | some c => exact .flt c s1 rfl E rfl
    | none =>
      have G := wf_keep wf (Nat.zero_le _) ho hk e
      have e1 : (initR sd).to.length = 0 := rfl
      have e2 : s1.st.length = 0 := by rw [G.st]; rfl
      have g1 := G.to
      dsimp only
      cases eg : goR xs b n s1 with
      | mk s2 o2 =>
        have R := go_ind b2 hs st n s1 s2 o2 G.wf (by omega) (by omega) (h0 s1 G.wf E) eg
        cases o2 with
        | none => exact .run s1 s2 E G.wf (h0 s1 G.wf E) R (by rw [if_pos rfl])
        | some c => exact .run s1 s2 E G.wf (h0 s1 G.wf E) R (by rw [if_neg (fun z => nomatch z)])
end
open PySem PySem.Spec L2
open PySem PySem.Spec L2
section
variable {P : Program} {w : World} {K : PySem.W.Frag} {mg : Str → Option Value} {base : Heap}
structure In18 (xs : List Sg) (b hand : Int) (s : Rn) : Prop where
  rg : 0 ≤ s.ring ∧ s.ring < 8
  a : 0 ≤ s.a ∧ s.a < b
  pt : ∀ r g p, some (r, g, p) ∈ s.pt → 0 ≤ r ∧ r < 8
  ca : ∀ c ∈ s.ca, 0 ≤ c.1 ∧ c.1 < 8
  me : ∀ ws ∈ s.me, ∀ x ∈ ws, wdFits x b (xs.length : Int) = true
  ml : s.me.map List.length = xs.map fun x => x.ws.length
  hd : ∀ c, s.ca[0]? = some c → c.1 = hand
  h0 : s.ca = [] → s.ring = hand
theorem mx_le1 (i j : Int) : i ≤ mx i j := by unfold mx; split <;> omega
theorem mx_le2 (i j : Int) : j ≤ mx i j := by unfold mx; split <;> omega
theorem mx_lt {i j k : Int} (h1 : i < k) (h2 : j < k) : mx i j < k := by unfold mx; split <;> omega
theorem mx_ge {i j k : Int} (h1 : k ≤ i) : k ≤ mx i j := Int.le_trans h1 (mx_le1 _ _)
theorem sgAt_mem {xs : List Sg} {g : Int} (g0 : 0 ≤ g) (gN : g < (xs.length : Int)) : sgAt xs g ∈ xs := by
  unfold sgAt
  rw [List.getD_eq_getElem?_getD, List.getElem?_eq_getElem (by omega)]
  exact List.getElem_mem _
theorem br_of {x : Sg} {b m : Int} (h : sgFits x b m = true) : 0 ≤ x.r1 ∧ x.r1 ≤ x.r2 ∧ x.r2 ≤ x.r3 ∧ x.r3 < 8 := by
  unfold sgFits at h
  simp only [Bool.and_eq_true] at h
  have h1 := h.1
  unfold brFits at h1
  simp only [Bool.and_eq_true, decide_eq_true_eq, below_iff] at h1
  omega
theorem spot_word {xs : List Sg} {s : Rn} {e g p : Int} (h : Spot xs s e g p) : s.wordAt g p ∈ s.mem g ∧ s.mem g ∈ s.me := by
  have hp := h.pN
  have hp0 := h.p0
  refine ⟨?_, ?_⟩
  · unfold Rn.wordAt
    rw [List.getD_eq_getElem?_getD, List.getElem?_eq_getElem (by omega)]
    exact List.getElem_mem _
  · rcases mem_mem (s := s) (g := g) with h2 | h2
    · rw [h2] at hp
      simp at hp
      omega
    · exact h2
theorem put_ml {s : Rn} {g p : Int} {x : Wd} : (s.put g p x).me.map List.length = s.me.map List.length := by
  show (s.me.set g.toNat ((s.mem g).set p.toNat x)).map List.length = _
  refine List.ext_getElem (by simp) fun i h1 h2 => ?_
  rw [List.length_map] at h2
  rw [List.getElem_map, List.getElem_map]
  by_cases e : g.toNat = i
  · subst e
    rw [List.getElem_set_self, List.length_set]
    unfold Rn.mem
    rw [List.getD_eq_getElem?_getD, List.getElem?_eq_getElem h2]
    rfl
  · rw [List.getElem_set_ne e]
theorem ent_in {x : Sg} {pl e r : Int} (hx : 0 ≤ x.r1 ∧ x.r1 ≤ x.r2 ∧ x.r2 ≤ x.r3 ∧ x.r3 < 8) (he : 0 ≤ e ∧ e < 8) (h : enteredR x pl e = .ok r) : 0 ≤ r ∧ r < 8 := by
  unfold enteredR at h
  split at h
  · cases h
  split at h
  · cases h
  split at h
  · cases h
    exact ⟨mx_ge he.1, mx_lt he.2 (by omega)⟩
  split at h
  · cases h
  split at h
  · cases h
  · cases h
    omega
theorem wd_num {n b m : Int} (h : wdFits (.num n) b m = true) : 0 ≤ n ∧ n < b := below_iff.mp h
theorem wd_ptr {r s p b m : Int} (h : wdFits (.ptr r s p) b m = true) : (0 ≤ r ∧ r < 8) ∧ (0 ≤ s ∧ s < m) ∧ 0 ≤ p := by
  have h' : (below r 8 && (below s m && decide (0 ≤ p))) = true := h
  simp only [Bool.and_eq_true, decide_eq_true_eq, below_iff] at h'
  exact ⟨h'.1, h'.2.1, h'.2.2⟩
theorem wd_ptr_of {r s p b m : Int} (h1 : 0 ≤ r ∧ r < 8) (h2 : 0 ≤ s ∧ s < m) (h3 : 0 ≤ p) : wdFits (.ptr r s p) b m = true := by
  show (below r 8 && (below s m && decide (0 ≤ p))) = true
  simp only [Bool.and_eq_true, decide_eq_true_eq, below_iff]
  exact ⟨h1, h2, h3⟩
section
variable {xs : List Sg} {b hand : Int} {s s' : Rn} {op : Str}
theorem In18.step (I : In18 xs b hand s) (g p : Int) : In18 xs b hand (s.stepTo g p) := ⟨I.rg, I.a, I.pt, I.ca, I.me, I.ml, I.hd, I.h0⟩
theorem In18.spot (I : In18 xs b hand s) {e g p : Int} (h : Spot xs s e g p) : 0 ≤ e ∧ e < 8 := by
  obtain ⟨r, pl, hm, rfl⟩ := h.r
  have h1 := I.pt _ _ _ hm
  exact ⟨mx_ge I.rg.1, mx_lt I.rg.2 h1.2⟩
theorem In18.eff (hs : ∀ x ∈ xs, SgForm x ∧ sgFits x b xs.length = true) (wf : WF xs s) (I : In18 xs b hand s) (E : Eff xs b op s s' none) : In18 xs b hand s' := by
  have setP : ∀ (q r g p : Int), 0 ≤ r ∧ r < 8 → ∀ r' g' p', some (r', g', p') ∈ s.pt.set q.toNat (some (r, g, p)) → 0 ≤ r' ∧ r' < 8 := fun q r g p h r' g' p' hm => by
    rcases List.mem_or_eq_of_mem_set hm with h1 | h1
    · exact I.pt _ _ _ h1
    · cases h1
      exact h
  cases E with
  | num n pl h0 h1 => exact ⟨I.rg, ⟨h0, h1⟩, I.pt, I.ca, I.me, I.ml, I.hd, I.h0⟩
  | load e g p n pl sp hr hw =>
    obtain ⟨w1, w2⟩ := spot_word sp
    have := I.me _ w2 _ w1
    rw [hw] at this
    exact ⟨I.rg, wd_num this, I.pt, I.ca, I.me, I.ml, I.hd, I.h0⟩
  | fetch e g p r g' p' q pl sp hr hw =>
    obtain ⟨w1, w2⟩ := spot_word sp
    have h1 := I.me _ w2 _ w1
    rw [hw] at h1
    have h2 := wd_ptr h1
    have h3 := I.spot sp
    have h4 := br_of (hs _ (sgAt_mem sp.g0 sp.gN)).2
    exact ⟨I.rg, I.a, setP q _ g' p' ⟨mx_ge (mx_ge h2.1.1), mx_lt (mx_lt h2.1.2 h3.2) (by omega)⟩, I.ca, I.me, I.ml, I.hd, I.h0⟩
  | write e g p x pl sp hr hx =>
    have hfx : wdFits x b (xs.length : Int) = true := by
      rcases hx with rfl | ⟨r, g', p', hm, rfl⟩
      · exact below_iff.mpr I.a
      · have h1 := wf.ptg _ _ _ hm
        exact wd_ptr_of (I.pt _ _ _ hm) ⟨h1.1, h1.2.1⟩ h1.2.2
    refine ⟨I.rg, I.a, I.pt, I.ca, fun ws hm y hy => ?_, ?_, I.hd, I.h0⟩
    · rcases List.mem_or_eq_of_mem_set (show ws ∈ s.me.set g.toNat ((s.mem g).set p.toNat x) from hm) with h1 | h1
      · exact I.me _ h1 y hy
      · subst h1
        rcases List.mem_or_eq_of_mem_set hy with h2 | h2
        · exact I.me _ (spot_word sp).2 y h2
        · rw [h2]; exact hfx
    · rw [put_ml]
      exact I.ml
  | aim q g p pl g0 gN p0 => exact ⟨I.rg, I.a, setP q s.ring g p I.rg, I.ca, I.me, I.ml, I.hd, I.h0⟩
  | move q r g p p' pl hm p0 => exact ⟨I.rg, I.a, setP q r g p' (I.pt _ _ _ hm), I.ca, I.me, I.ml, I.hd, I.h0⟩
  | jump g p j pl hw => exact ⟨I.rg, I.a, I.pt, I.ca, I.me, I.ml, I.hd, I.h0⟩
  | stay pl hw => exact I
  | call r g pl e ho hm he h8 =>
    have h1 := wf.ptg _ _ _ hm
    have h4 := br_of (hs _ (sgAt_mem h1.1 h1.2.1)).2
    have h5 := ent_in h4 ⟨mx_ge I.rg.1, mx_lt I.rg.2 (I.pt _ _ _ hm).2⟩ he
    refine ⟨h5, I.a, fun r' g' p' hm' => ?_, fun c hc => ?_, I.me, I.ml, fun c hc => ?_, fun z => ?_⟩
    · obtain ⟨y, hy, ey⟩ := List.mem_map.mp (show some (r', g', p') ∈ s.pt.map (raisedR e) from hm')
      cases y with
      | none => cases ey
      | some z =>
        obtain ⟨o, g1, p1⟩ := z
        cases ey
        have := I.pt _ _ _ hy
        exact ⟨mx_ge this.1, mx_lt this.2 h5.2⟩
    · rcases List.mem_append.mp (show c ∈ s.ca ++ [(s.ring, s.wh)] from hc) with h | h
      · exact I.ca c h
      · rw [List.mem_singleton.mp h]; exact I.rg
    · have hc' : (s.ca ++ [(s.ring, s.wh)])[0]? = some c := hc
      by_cases e0 : s.ca = []
      · rw [e0] at hc'
        cases hc'
        exact I.h0 e0
      · rw [List.getElem?_append_left (List.length_pos_iff.mpr e0)] at hc'
        exact I.hd c hc'
    · exact absurd (show s.ca ++ [(s.ring, s.wh)] = [] from z) (by simp)
  | ret r w x ho hw hl =>
    have hm : (r, w) ∈ s.ca := List.mem_of_getLast? hl
    have h5 := I.ca _ hm
    refine ⟨h5, I.a, fun r' g' p' hm' => ?_, fun c hc => I.ca c ((List.dropLast_subset _) hc), I.me, I.ml, fun c hc => ?_, fun z => ?_⟩
    · obtain ⟨y, hy, ey⟩ := List.mem_map.mp (show some (r', g', p') ∈ s.pt.map (raisedR r) from hm')
      cases y with
      | none => cases ey
      | some z =>
        obtain ⟨o, g1, p1⟩ := z
        cases ey
        have := I.pt _ _ _ hy
        exact ⟨mx_ge this.1, mx_lt this.2 h5.2⟩
    · have hc' : s.ca.dropLast[0]? = some c := hc
      rw [List.getElem?_dropLast] at hc'
      split at hc'
      · exact I.hd c hc'
      · cases hc'
    · have z' : s.ca.dropLast = [] := z
      have hlen : s.ca.length = 1 := by
        have h1 := congrArg List.length z'
        rw [List.length_dropLast] at h1
        have h2 := List.length_pos_iff.mpr (List.ne_nil_of_mem hm)
        simp at h1
        omega
      have h6 : s.ca[0]? = some (r, w) := by
        rw [List.getLast?_eq_getElem?, hlen] at hl
        exact hl
      exact I.hd _ h6
def Low (s : Rn) : Prop := s.wh = none → ∀ r g p, some (r, g, p) ∈ s.pt → s.ring ≤ r
theorem low_enter {s : Rn} {r : Int} {w : Option (Int × Int)} : Low (s.enter r w) := fun _ r' g' p' hm => by
  obtain ⟨y, hy, ey⟩ := List.mem_map.mp (show some (r', g', p') ∈ s.pt.map (raisedR r) from hm)
  cases y with
  | none => cases ey
  | some z =>
    obtain ⟨o, g1, p1⟩ := z
    cases ey
    exact mx_le2 _ _
theorem Low.eff (h : s.wh ≠ none) (E : Eff xs b op s s' none) : Low s' := by
  cases E with
  | num n pl h0 h1 => exact fun z => absurd z h
  | load e g p n pl sp hr hw => exact fun z => absurd z h
  | fetch e g p r g' p' q pl sp hr hw => exact fun z => absurd z h
  | write e g p x pl sp hr hx => exact fun z => absurd z h
  | aim q g p pl g0 gN p0 => exact fun z => absurd z h
  | move q r g p p' pl hm p0 => exact fun z => absurd z h
  | jump g p j pl hw => exact fun z => (nomatch z)
  | stay pl hw => exact fun z => absurd z h
  | call r g pl e ho hm he h8 => exact fun z => (nomatch z)
  | ret r w x ho hw hl => exact low_enter
theorem eff_me {c : Str} (E : Eff xs b op s s' (some c)) : s'.me = s.me := by cases E <;> rfl
theorem eff_c {c : Str} (E : Eff xs b op s s' (some c)) : c ∈ causesL := by
  cases E with
  | flt c h1 h2 => exact h1
  | kind e g p pl sp hr => decide +kernel
theorem eff_call (E : Eff xs b "call" s s' none) : s'.wh ≠ none := by
  cases E with
  | num n pl h0 h1 => exact absurd rfl pl.c
  | load e g p n pl sp hr hw => exact absurd rfl pl.c
  | fetch e g p r g' p' q pl sp hr hw => exact absurd rfl pl.c
  | write e g p x pl sp hr hx => exact absurd rfl pl.c
  | aim q g p pl g0 gN p0 => exact absurd rfl pl.c
  | move q r g p p' pl hm p0 => exact absurd rfl pl.c
  | jump g p j pl hw => exact absurd rfl pl.c
  | stay pl hw => exact absurd rfl pl.c
  | call r g pl e ho hm he h8 => exact fun z => (nomatch z)
  | ret r w x ho hw hl => exact absurd ho (by decide +kernel)
end
theorem step_ne {s : Rn} {g p : Int} : (s.stepTo g p).wh ≠ none := fun z => by
  have z' : some (g, p + 1) = (none : Option (Int × Int)) := z
  cases z'
theorem no_hd {hand : Int} : ∀ c : Int × Option (Int × Int), ([] : List (Int × Option (Int × Int)))[0]? = some c → c.1 = hand := fun c hc => by simp at hc
theorem lost18 {xs : List Sg} {b : Int} {sd : Sd} {s : Rn} (b2 : 2 ≤ b) (I : In18 xs b sd.ring (initR sd)) (me : ∀ ws ∈ s.me, ∀ x ∈ ws, wdFits x b (xs.length : Int) = true) (ml : s.me.map List.length = xs.map fun x => x.ws.length) : In18 xs b sd.ring (initR (s.lost.sd sd.ring)) :=
  ⟨I.rg, ⟨by show (0 : Int) ≤ 0; decide, by show (0 : Int) < b; omega⟩, fun r g p hm => by
    have hm' : some (r, g, p) ∈ ([none, none, none, none] : List Pt) := hm
    simp at hm', fun c hc => (nomatch hc), me, ml, no_hd, fun _ => rfl⟩
/-- what a deed leaves -/
theorem deed18 {xs : List Sg} {b : Int} {sd : Sd} {op : Str} {ns : List Int} {n : Nat} (b2 : 2 ≤ b) (hs : ∀ x ∈ xs, SgForm x ∧ sgFits x b xs.length = true) (wf : WF xs (initR sd)) (I : In18 xs b sd.ring (initR sd)) (ho : op ∈ actOps) (hk : okOf op xs ns) (hn : n ≤ 800) :
    In18 xs b sd.ring (initR ((deedR xs b n (initR sd) op ns).1.sd sd.ring)) ∧
    (∀ c, (deedR xs b n (initR sd) op ns).2 = some c → c ∈ causesL ∧ (deedR xs b n (initR sd) op ns).1.a = 0 ∧ (deedR xs b n (initR sd) op ns).1.pt = [none, none, none, none]) ∧
    ((deedR xs b n (initR sd) op ns).2 = none → op = "call" → ∀ r g p, some (r, g, p) ∈ (deedR xs b n (initR sd) op ns).1.pt → sd.ring ≤ r) := by
  have D := deed_ind (I := fun s => In18 xs b sd.ring s ∧ (op = "call" → Low s)) (n := n) b2 hs wf ho hk hn (fun s1 _ E => ⟨I.eff hs wf E, fun e z => by subst e; exact absurd z (eff_call E)⟩) (fun s g p s' e p0 pN wf0 wf1 wf2 i0 E => ⟨(i0.1.step g p).eff hs wf1 E, fun _ => Low.eff (step_ne (s := s)) E⟩)
  generalize deedR xs b n (initR sd) op ns = R at D
  obtain ⟨s', o⟩ := R
  dsimp only at D ⊢
  cases D with
  | flt c s1 eo E es =>
    subst es eo
    have em := eff_me E
    refine ⟨lost18 b2 I (by rw [em]; exact I.me) (by rw [em]; exact I.ml), fun c' ec => ?_, fun z => (nomatch z)⟩
    cases ec
    exact ⟨eff_c E, rfl, rfl⟩
  | run s1 s2 E w1 i1 G es =>
    cases G with
    | fin eo ew w2 i2 =>
      subst eo
      rw [if_pos rfl] at es
      subst es
      have i := i2.1
      refine ⟨⟨I.rg, i.a, i.pt, fun c hc => (nomatch hc), i.me, i.ml, no_hd, fun _ => rfl⟩, fun c z => (nomatch z), fun _ ec r g p hm => ?_⟩
      have h1 := i2.2 ec ew r g p hm
      have h2 : s'.ca = [] := w2.sk.1.mp ew
      rw [i.h0 h2] at h1
      exact h1
    | out g p ew w2 i2 eo =>
      have i := i2.1
      have key : ∀ c, o = some c → c ∈ causesL → In18 xs b sd.ring (initR (s'.sd sd.ring)) ∧ (∀ c, o = some c → c ∈ causesL ∧ s'.a = 0 ∧ s'.pt = [none, none, none, none]) ∧ (o = none → op = "call" → ∀ r g p, some (r, g, p) ∈ s'.pt → sd.ring ≤ r) := fun c ec hc => by
        subst ec
        rw [if_neg (fun z => nomatch z)] at es
        subst es
        exact ⟨lost18 b2 I i.me i.ml, fun c' z => by cases z; exact ⟨hc, rfl, rfl⟩, fun z => (nomatch z)⟩
      rcases eo with e | e
      · exact key _ e (by decide +kernel)
      · exact key _ e (by decide +kernel)
    | bad s0 g p c ew p0 pN w0 w1' i0 eo E0 =>
      subst eo
      rw [if_neg (fun z => nomatch z)] at es
      subst es
      have i := i0.1
      have em := eff_me E0
      have em' : s2.me = s0.me := em
      exact ⟨lost18 b2 I (by rw [em']; exact i.me) (by rw [em']; exact i.ml), fun c' z => by cases z; exact ⟨eff_c E0, rfl, rfl⟩, fun z => (nomatch z)⟩
end
open PySem PySem.Spec L2
section
variable {P : Program} {w : World} {K : PySem.W.Frag} {mg : Str → Option Value} {base : Heap}
def wishD : Option (Int × Int × Wd) → PyData
  | none => .none
  | some (g, p, x) => .tuple [.int g, .int p, x.d]
def wdOf (s : Sd) (g p : Int) : Wd := (s.me.getD g.toNat []).getD p.toNat (.num 0)
def hitW : Option (Int × Int × Wd) → Sd → Bool
  | none, _ => false
  | some (g, p, x), s => PyData.eqv (wdOf s g p).d x.d
theorem rd_wn {p : Addr} {A B : Prop} (h : A) : if (!decide (V.ref p = V.non)) = true then A else B := by
  rw [if_pos]
  · exact h
  · rw [decide_eq_false (fun z => nomatch z)]
    rfl
abbrev GW (xs : List Sg) (b : Int) (s : Sd) : Prop := WF xs (initR s) ∧ In18 xs b s.ring (initR s)
/-- a word that there is, in each stand -/
theorem wish_at {xs : List Sg} {b : Int} {s : Sd} {g p : Int} (h : GW xs b s) (g0 : 0 ≤ g) (gN : g < (xs.length : Int)) (pN : p < ((sgAt xs g).ws.length : Int)) : g < (s.me.length : Int) ∧ p < ((s.me.getD g.toNat []).length : Int) := by
  have hm : s.me.length = xs.length := h.1.me
  refine ⟨by omega, ?_⟩
  have hl : s.me.map List.length = xs.map fun x => x.ws.length := h.2.ml
  have h1 : (s.me.map List.length)[g.toNat]? = (xs.map fun x => x.ws.length)[g.toNat]? := by rw [hl]
  rw [List.getElem?_map, List.getElem?_map, List.getElem?_eq_getElem (show g.toNat < s.me.length by omega), List.getElem?_eq_getElem (show g.toNat < xs.length by omega)] at h1
  injection h1 with h2
  unfold sgAt at pN
  rw [List.getD_eq_getElem?_getD, List.getElem?_eq_getElem (show g.toNat < xs.length by omega)] at pN
  rw [List.getD_eq_getElem?_getD, List.getElem?_eq_getElem (show g.toNat < s.me.length by omega)]
  show p < ((s.me[g.toNat]).length : Int)
  rw [h2]
  exact pN
def spWishHolds : Sp := fun vs H Q _ => ∃ (v u : V) (g p : Int) (x : Wd) (s : Sd), vs = [v, u] ∧ Rp H v (wishD (some (g, p, x))) ∧ Rp H u s.d ∧ 0 ≤ g ∧ g < (s.me.length : Int) ∧ 0 ≤ p ∧ p < ((s.me.getD g.toNat []).length : Int) ∧ ∀ H', Same H H' → Q (.bl (hitW (some (g, p, x)) s)) H'
theorem ok_wishH {f : Addr} {fd : FuncData} (B : BT mg) (F : Fun K "wish_holds" "wish_holds" s_wish_holds f fd) (hm : mg "wish_holds" = some (.ref f)) : Cal P w K mg base "wish_holds" 1 ["wish", "stand"] spWishHolds := by
  refine ⟨f, fd, hm, F.kp, F.binds (ps := ["wish", "stand"]) fun _ _ _ _ _ _ us hl => match us, hl with | [_, _], _ => rfl, ?_⟩
  refine F.ok sc_wish_holds (fun vs H Q E h => ?_) (fun cdv A outer s H vs Q E hr h => ?_)
  · obtain ⟨v, u, g, p, x, s, rfl, _⟩ := h
    rfl
  · obtain ⟨v, u, g, p, x, s, rfl, rv, ru, g0, gN, p0, pN, k⟩ := h
    refine ⟨_, (pss_cons (ps_asg (pv 0) (pg_tup (by rfl) (pgs_cons (pg_name (i := 2) sc_wish_holds.nd rfl (Or.inl rfl)) (pgs_cons (pg_name (i := 3) sc_wish_holds.nd rfl (Or.inl rfl)) (pgs_cons (pg_name (i := 4) sc_wish_holds.nd rfl (Or.inl rfl)) pgs_nil)))))
 (pss_one (ps_ret (pe_cmpR (r := rEqD K) (op_eqD hr.units) (pe_ix (r := rIxT K) ix_tup (pe_ix (r := rIxT K) ix_tup (pe_ix (r := rIxT K) ix_tup (pv 1) pe_int (fun _ _ => rfl)) (pv 2) (fun _ _ => rfl)) (pv 3) (fun _ _ => rfl)) (pv 4) (nomark _))))), ?_⟩
    obtain ⟨pv, vv, rfl, hpv, hav⟩ := rv.tup_inv
    obtain ⟨y0, yr, rfl, z0, hav⟩ := hav.cons_inv
    obtain ⟨y1, yr, rfl, z1, hav⟩ := hav.cons_inv
    obtain ⟨y2, yr, rfl, z2, hav⟩ := hav.cons_inv
    have e := hav.nil_inv; subst e
    have e := z0.int_inv; subst e
    have e := z1.int_inv; subst e
    obtain ⟨pu, vu, rfl, hpu, hau⟩ := ru.tup_inv
    obtain ⟨u0, ur, rfl, t0, hau⟩ := hau.cons_inv
    obtain ⟨u1, ur, rfl, t1, hau⟩ := hau.cons_inv
    obtain ⟨u2, ur, rfl, t2, hau⟩ := hau.cons_inv
    obtain ⟨u3, ur, rfl, t3, hau⟩ := hau.cons_inv
    have e := hau.nil_inv; subst e
    obtain ⟨pm, vm, rfl, hpm, ham⟩ := t3.tup_inv
    obtain ⟨wv, hwv, rw1⟩ := ham.get2 (i := g.toNat) (d := .tuple ((s.me.getD g.toNat []).map Wd.d)) (by
      rw [List.getElem?_map, List.getD_eq_getElem?_getD, List.getElem?_eq_getElem (show g.toNat < s.me.length by omega)]
      rfl)
    obtain ⟨pw, vw, rfl, hpw, haw⟩ := rw1.tup_inv
    obtain ⟨xv, hxv, rx⟩ := haw.get2 (i := p.toNat) (d := (wdOf s g p).d) (by
      unfold wdOf
      generalize s.me.getD g.toNat [] = ws at pN
      rw [List.getElem?_map, List.getD_eq_getElem?_getD, List.getElem?_eq_getElem (show p.toNat < ws.length by omega)]
      rfl)
    walk_at "rds"
    refine rd_ixT hpm (at_of (by omega) hwv) ?_
    walk_at "rd"
    refine rd_ixT hpw (at_of (by omega) hxv) ?_
    walk_at "rd"
    have ws : ∀ y : Wd, SeqAt.shaped y.d = true := fun y => shaped_of (j := 2) (Wd.lay y) (Wd.ok y) (by decide)
    refine rd_eqD (d := (wdOf s g p).d) (e := x.d) rx.dp z2.dp (ws _) (ws _) ?_
    exact k H (Same.refl _)
theorem fF_noW {v0 v1 v2 v3 : V} {n : Str} (h : (n == "limit") = false ∧ (n == "things") = false ∧ (n == "ways") = false ∧ (n == "taken") = false) : (fF v0 v1 v2 v3).lookup n = none := by
  obtain ⟨h1, h2, h3, h4⟩ := h
  unfold fF
  simp only [List.lookup, h1, h2, h3, h4]
def spSearchW (C CI TM : Addr) : Sp := fun vs H Q E => ∃ (x q M : Addr) (us ms : List V) (xs : List Sg) (b : Int) (sd : Sd) (rs : List Rw) (wv : V) (wg wp : Int) (wx : Wd) (lim : Int), vs = [.ref x, .ref q, .ref M, wv, .int lim] ∧ Mch C H x us xs b ∧ Rp H (.ref q) sd.d ∧ GW xs b sd ∧ H M = some (.lst ms) ∧ RpAll H ms (rs.map Rw.d) ∧ (∀ r ∈ rs, RwForm r ∧ rowFits r (xs.length : Int) = true) ∧ rs.length ≤ 900 ∧
  Rp H wv (wishD (some (wg, wp, wx))) ∧ 0 ≤ wg ∧ wg < (xs.length : Int) ∧ 0 ≤ wp ∧ wp < ((sgAt xs wg).ws.length : Int) ∧ 1 ≤ lim ∧ lim.natAbs.log2 < 1920 ∧ (900 < lim → bfs0 (stepD xs b rs) (hitW (some (wg, wp, wx))) (min lim 900) rs.length sd ≠ .many) ∧
  (∀ L, bfs0 (stepD xs b rs) (hitW (some (wg, wp, wx))) (min lim 900) rs.length sd = .run L → ∀ (p ls : Addr) (qs : List V) (H' : Hp), H' p = some (.tup [.ref ls, .non]) → H' ls = some (.lst qs) → RpAll H' qs (L.map fun e => e.1.d) → H ls = none → Same H H' → Q (.ref p) H') ∧
  (∀ L w, bfs0 (stepD xs b rs) (hitW (some (wg, wp, wx))) (min lim 900) rs.length sd = .hit L w → ∀ (p ls wl : Addr) (qs : List V) (H' : Hp), H' p = some (.tup [.ref ls, .ref wl]) → H' ls = some (.lst qs) → RpAll H' qs (L.map fun e => e.1.d) → H ls = none → H' wl = some (.lst (w.map V.int)) → H wl = none → Same H H' → Q (.ref p) H') ∧
  (bfs0 (stepD xs b rs) (hitW (some (wg, wp, wx))) (min lim 900) rs.length sd = .many → ∀ (d : Addr) (H' : Hp), H d = none → H' d = some (.xd [("what", .int lim)]) → Same H H' → E (.ref TM) (some d) H')
theorem ok_searchW {f fI fD C CI CR CF TM : Addr} {fd fdI fdD : FuncData} {dsD : List Value} (B : BT mg) (T : FiC K mg CI) (F : Fun K "search" "search" s_search f fd) (hm : mg "search" = some (.ref f)) (MkF : Mk K CI fI) (F_finit : FnOk P w K mg base CX0 1 fI fdI ["self", "start", "limit"] (spFInit P w CI)) (bFI : Binds K fdI ["self", "start", "limit"] [])
    (M_more : Mth P w K mg base CI "more" 1 ["self"] (spMore P w CI)) (M_take : Mth P w K mg base CI "take" 1 ["self"] (spTake P w CI)) (M_put : MthR P w K mg base CI "put" 4 ["self", "thing", "way"] (spPut P w CI TM))
    (hmD : mg "done" = some (.ref fD)) (hkD : PySem.W.keepIn K (.ref fD) = true) (bD : Binds K fdD ["machine", "stand", "deed", "most"] dsD) (vD : Vals [.int 100] dsD) (F_done : FnOk P w K mg base CX0 10 fD fdD ["machine", "stand", "deed", "most"] (spDone C CR CF actOps))
    (C_wish_holds : Cal P w K mg base "wish_holds" 1 ["wish", "stand"] spWishHolds) :
    CalX P w K mg base "search" 11 ["machine", "stand", "menu", "wish", "limit"] (spSearchW C CI TM) := by
  refine ⟨f, fd, hm, F.kp, F.binds (ps := ["machine", "stand", "menu", "wish", "limit"]) fun _ _ _ _ _ _ us hl => match us, hl with | [_, _, _, _, _], _ => rfl, ?_⟩
  refine F.okX sc_search (fun vs H Q E h => ?_) (fun cdv A outer s H vs Q E hr h => ?_)
  · obtain ⟨x, q, M, us, ms, xs, b, sd, rs, wv, wg, wp, wx, lim, rfl, _⟩ := h
    rfl
  · obtain ⟨x, q, M, us, ms, xs, b, sd, rs, wv, wg, wp, wx, lim, rfl, Mc, rq, gw, hM, rms, hrs, n9, rwv, wg0, wgN, wp0, wpN, lim1, hlim, hcap, k1, k2, k3⟩ := h
    refine ⟨_, (pss_cons (ps_set (i := 5) sc_search.nd rfl (Or.inl rfl) (pe_make MkF F_finit (hr.mono (by omega)) rfl T.mgC bFI .nil pass0 (pa_cons (pv 1) (pa_cons (pv 4) pa_nil))))
 (pss_cons (ps_if (PW.pt (pw_and (pt_cmpR op_notN (pv 3) pe_non (nomark _)) (pw_and1 (pt_val (pe_cal C_wish_holds (hr.mono (by omega)) rfl (pa_cons (pv 3) (pa_cons (pv 1) pa_nil))))))) (pss_one (ps_ret (pe_tup (pa_cons (pe_fldK (K := K) (pv 5) rfl) (pa_cons (pe_lst pa_nil) pa_nil))))) pss_nil)
 (pss_cons (ps_while (passes_of rfl) (pt_val (pe_mth0 M_more T.cl (hr.mono (by omega)) (pv 5))) (pss_cons (ps_asg (pe_mth0 M_take T.cl (hr.mono (by omega)) (pv 5)) (pg_tup (by rfl) (pgs_cons (pg_name (i := 6) sc_search.nd rfl (Or.inl rfl)) (pgs_cons (pg_name (i := 7) sc_search.nd rfl (Or.inl rfl)) pgs_nil))))
 (pss_one (ps_for (passes_of rfl) rfl (pi_enum rfl B.g_enumerate (pa_cons (pv 2) pa_nil)) (pg_tup (by rfl) (pgs_cons (pg_name (i := 8) sc_search.nd rfl (Or.inl rfl)) (pgs_cons (pg_name (i := 9) sc_search.nd rfl (Or.inl rfl)) pgs_nil)))
 (pss_cons (ps_asg (pe_call F_done (hr.mono (by omega)) rfl hmD hkD bD vD pass0 (pa_cons (pv 0) (pa_cons (pv 6) (pa_cons (pv 9) pa_nil)))) (pg_tup (by rfl) (pgs_cons (pg_name (i := 10) sc_search.nd rfl (Or.inl rfl)) (pgs_cons (pg_name (i := 11) sc_search.nd rfl (Or.inl rfl)) pgs_nil))))
 (pss_cons (ps_expr (pe_mthR (E := E) M_put T.cl (hr.mono (by omega)) (takes_of rfl rfl rfl rfl) (pv 5) (pa_cons (pv 10) (pa_cons (pe_op op_cat (pv 7) (pe_lst (pa_cons (pv 8) pa_nil))) pa_nil))))
 (pss_one (ps_if (PW.pt (pw_and (pt_cmpR op_notN (pv 3) pe_non (nomark _)) (pw_and1 (pt_val (pe_cal C_wish_holds (hr.mono (by omega)) rfl (pa_cons (pv 3) (pa_cons (pv 10) pa_nil))))))) (pss_one (ps_ret (pe_tup (pa_cons (pe_fldK (K := K) (pv 5) rfl) (pa_cons (pe_op op_cat (pv 7) (pe_lst (pa_cons (pv 8) pa_nil))) pa_nil))))) pss_nil))))))))
 (pss_one (ps_ret (pe_tup (pa_cons (pe_fldK (K := K) (pv 5) rfl) (pa_cons pe_non pa_nil)))))))), ?_⟩
    obtain ⟨pw, vw, rfl, hpw, _⟩ := id rwv.tup_inv
    have wok := fun (s : Sd) (h : GW xs b s) => wish_at h wg0 wgN wpN
    walk_at "rds"
    intro xf dx hx1 hx2 hne
    have s3 : Same H (upd (upd H dx (.own xf)) xf (.ins CI dx [])) := (same_upd hx2).trans (same_upd (by rw [upd_ne (Ne.symm hne)]; exact hx1))
    have rqk : Rp H (.ref q) sd.k.data := by rw [Sd.k_d]; exact rq
    refine ⟨H, xf, dx, q, sd.k, lim, rfl, upd_same, hx1, s3, rqk.keep (Tk.of s3), sd.k_depth, fun wl H1 F1 tk1 => ⟨rfl, ?_⟩⟩
    walk_at "rd"
    refine ⟨rfl, ?_⟩
    walk_at "rd"
    refine rd_wn ?_
    walk_at "rd"
    refine ⟨_, _, wg, wp, wx, sd, rfl, rwv.keep ((Tk.of s3).trans tk1), rq.keep ((Tk.of s3).trans tk1), wg0, (wok sd gw).1, wp0, (wok sd gw).2, fun H1' s1' => ?_⟩
    have F1' := F1.same s1'
    clear F1
    walk_at "rd"
    refine rd_ifb (fun h0 => ?_) (fun h0 => ?_)
    · have ebf : bfs0 (stepD xs b rs) (hitW (some (wg, wp, wx))) (min lim 900) rs.length sd = .hit [(sd, [])] [] := by
        unfold bfs0
        exact if_pos h0
      obtain ⟨dx1, ls, D, g1, g2, g3, n1, n2, n3, g4⟩ := id F1'.ex
      walk_at "rd"
      refine ⟨xf, CI, dx1, _, _, rfl, g1, T.cl, T.n_things, fF_things, ?_⟩
      walk_at "rd"
      intro l0 hl0
      have sa := same_upd (o := .lst []) hl0
      have e0 : upd H1' l0 (.lst []) l0 = some (.lst []) := upd_same
      generalize upd H1' l0 (.lst []) = H2 at sa e0
      walk_at "rd"
      intro p hp
      have sb := same_upd (o := .tup [.ref ls, .ref l0]) hp
      have hTL : TL [⟨sd.k, q, wl, []⟩] [(sd, [])] := rfl
      exact k2 _ _ ebf p ls l0 _ _ upd_same (sb _ _ (sa _ _ g2)) (hTL.rp fun t ht => ⟨((F1'.ks t ht).1.keep (Tk.of sa)).keep (Tk.of sb), (F1'.ks t ht).2⟩) n2 (sb _ _ e0) (F1'.sm.free hl0) (F1'.sm.trans (sa.trans sb))
    walk_at "rd"
    have ebf : bfs0 (stepD xs b rs) (hitW (some (wg, wp, wx))) (min lim 900) rs.length sd = bfsB (stepD xs b rs) (hitW (some (wg, wp, wx))) (min lim 900) rs.length 901 0 [(sd, [])] := by
      unfold bfs0
      exact if_neg (by rw [h0]; decide)
    rw [ebf] at hcap k1 k2 k3
    generalize hres : bfsB (stepD xs b rs) (hitW (some (wg, wp, wx))) (min lim 900) rs.length 901 0 [(sd, [])] = res at hcap k1 k2 k3
    have hlc : 1 ≤ min lim 900 := by omega
    refine ⟨fun i σ' H' => ∃ (tk : Nat) (L : Ln) (ts : List Th) (c6 c7 c8 c9 c10 c11 : Option V), σ' = [some (.ref x), some (.ref q), some (.ref M), some (.ref pw), some (.int lim), some (.ref xf), c6, c7, c8, c9, c10, c11] ∧ FAt P w CI H H' xf lim ts tk ∧ TL ts L ∧ (L.length : Int) ≤ min lim 900 ∧ (∀ e ∈ L, GW xs b e.1 ∧ e.2.length ≤ tk) ∧ i + tk = 901 ∧ bfsB (stepD xs b rs) (hitW (some (wg, wp, wx))) (min lim 900) rs.length i tk L = res,
      ⟨901, 0, [(sd, [])], [⟨sd.k, q, wl, []⟩], _, _, _, _, _, _, rfl, F1', rfl, hlc, fun e he => by rw [List.mem_singleton.mp he]; exact ⟨gw, Nat.le_refl _⟩, rfl, hres⟩, ?_⟩
    rintro i σ1 Ha ⟨tk, L, ts, c6, c7, c8, c9, c10, c11, rfl, Fa, hTL, hL9, hwf, hit, hb⟩
    obtain ⟨dx1, ls, D, g1, g2, g3, n1, n2, n3, g4⟩ := id Fa.ex
    have lts := hTL.len
    have sa := Fa.sm
    walk_at "rd"
    refine ⟨xf, dx1, _, rfl, g1, fF_noW (by decide +kernel), ?_⟩
    walk_at "rd"
    refine ⟨H, xf, lim, ts, tk, rfl, Fa, fun Hb sb => ?_⟩
    have Fb := Fa.same sb
    have g1b := sb _ _ g1
    walk_at "rd"
    refine rd_ifd (fun hlt => ?_) (fun hlt => ?_)
    case refine_2 =>
      have eres : res = .run L := by
        rw [← hb]
        exact bfsB_end (List.getElem?_eq_none (by omega))
      walk_at "rd"
      refine ⟨xf, CI, dx1, _, _, rfl, g1b, T.cl, T.n_things, fF_things, ?_⟩
      walk_at "rd"
      intro p hp
      have s3 := same_upd (o := .tup [.ref ls, .non]) hp
      exact k1 L eres p ls _ _ upd_same (s3 _ _ (sb _ _ g2)) ((hTL.rp fun t ht => ⟨((Fa.ks t ht).1.keep (Tk.of sb)).keep (Tk.of s3), (Fa.ks t ht).2⟩)) n2 (sa.trans (sb.trans s3))
    show ∃ N : L2.St → Hp → Prop, _
    refine ⟨_, fun σ' H' h => h, ?_⟩
    obtain ⟨e, he⟩ : ∃ e, L[tk]? = some e := ⟨_, List.getElem?_eq_getElem (show tk < L.length by omega)⟩
    obtain ⟨t, ht, etk, ens⟩ := hTL.get he
    obtain ⟨i, rfl⟩ : ∃ i', i = i' + 1 := ⟨i - 1, by omega⟩
    walk_at "rd"
    refine ⟨xf, dx1, _, rfl, g1b, fF_noW (by decide +kernel), ?_⟩
    walk_at "rd"
    refine ⟨H, xf, lim, ts, tk, t, rfl, Fb, ht, fun pt Hc hpt Fc tkc => ?_⟩
    have sc := Fc.sm
    walk_at "rd"
    refine ⟨M, ms, rfl, SqL.of (sc _ _ hM), ?_⟩
    have lms : ms.length = rs.length := by rw [rms.length, List.length_map]
    obtain ⟨⟨ewf, e18⟩, ewl⟩ := hwf e (List.mem_of_getElem? he)
    refine for_inv walk_enum (fun j σ' H' => ∃ (L' : Ln) (ts' : List Th) (c8 c9 c10 c11 : Option V), σ' = [some (.ref x), some (.ref q), some (.ref M), some (.ref pw), some (.int lim), some (.ref xf), some (.ref t.q), some (.ref t.wl), c8, c9, c10, c11] ∧ FAt P w CI H H' xf lim ts' (tk + 1) ∧ TL ts' L' ∧ (L'.length : Int) ≤ min lim 900 ∧ (∀ e ∈ L', GW xs b e.1 ∧ e.2.length ≤ tk + 1) ∧ t ∈ ts' ∧ j ≤ rs.length ∧ rowB (stepD xs b rs e.1) (hitW (some (wg, wp, wx))) (min lim 900) e.2 ((List.range rs.length).drop j) L' = rowB (stepD xs b rs e.1) (hitW (some (wg, wp, wx))) (min lim 900) e.2 (List.range rs.length) L)
      ⟨L, ts, _, _, _, _, rfl, Fc, hTL, hL9, fun e he => ⟨(hwf e he).1, by have := (hwf e he).2; omega⟩, List.mem_of_getElem? ht, Nat.zero_le _, rfl⟩ (fun j σ' H' _ p => by obtain ⟨_, _, _, _, _, _, _, p, _⟩ := p; exact SqL.of (p.sm _ _ hM)) ?_ ?_
    · rintro B' j v0 σ2 Hd He hj ⟨L1, ts1, c8, c9, c10, c11, rfl, Fd, hTL1, hL1, hwf1, hmem, hjm, hrow⟩ ⟨T', y, z, rfl, hT, rfl, ey, ez⟩
      cases ey
      obtain ⟨d, hd, rz⟩ := rms.get ez
      rw [List.getElem?_map] at hd
      obtain ⟨r, hr1, rfl⟩ := Option.map_eq_some_iff.mp hd
      obtain ⟨rf, rk⟩ := hrs r (List.mem_of_getElem? hr1)
      have hjl : j < rs.length := (List.getElem?_eq_some_iff.mp hr1).1
      have sT := same_upd (o := .tup [.int (j : Int), z]) hT
      have Fe := Fd.same sT
      have se := Fe.sm
      have rze := rz.keep (Tk.of se)
      have Mce : Mch C (upd Hd T' (.tup [.int (j : Int), z])) x us xs b := ⟨Mc.at_.same se, Mc.rp.keep (Tk.of se), Mc.l8, Mc.b2, Mc.ok⟩
      have rte : Rp (upd Hd T' (.tup [.int (j : Int), z])) (.ref t.q) e.1.d := by
        have := (Fe.ks t hmem).1
        rw [etk, Sd.k_d] at this
        exact this
      have estep : stepD xs b rs e.1 j = (deedR xs b 100 (initR e.1) r.op r.ns).1.sd e.1.ring := by
        unfold stepD
        rw [List.getD_eq_getElem?_getD, hr1]
        rfl
      obtain ⟨op, ns⟩ := r
      obtain ⟨ho, hk⟩ := row_okR rf rk
      have wfn := deed_good (b := b) (n := 100) (fun x hx => Mc.ok x hx) ewf ho hk (by decide) e.1.ring
      have l8 := Mc.l8
      walk_at "rd"
      refine ⟨x, us, xs, b, .ref t.q, z, e.1, op, ns, 100, rfl, Mce, rte, rze, ewf, ho, rf, rk, on_pre (n := 100) ewf ho hk (by decide), ?_, fun zz Hf rzz sf => ?_⟩
      · have h1 : (deedR xs b 100 (initR e.1) op ns).1.me.length = xs.length := wfn.me
        show (deedR xs b 100 (initR e.1) op ns).1.me.length ≤ 900
        omega
      obtain ⟨qz, vz, rfl, hqz, haz⟩ := rzz.tup_inv
      obtain ⟨z1, zr, rfl, rz1, haz⟩ := haz.cons_inv
      obtain ⟨z2, zr, rfl, rz2, haz⟩ := haz.cons_inv
      have e3 := haz.nil_inv; subst e3
      replace rz1 : Rp Hf z1 (stepD xs b rs e.1 j).d := by rw [estep]; exact rz1
      have wfs : GW xs b (stepD xs b rs e.1 j) := by rw [estep]; exact ⟨wfn, (deed18 (n := 100) Mc.b2 Mc.ok ewf e18 ho hk (by decide)).1⟩
      obtain ⟨qs, vq, rfl, hqs, haq⟩ := id rz1.tup_inv
      have Ff := Fe.same sf
      obtain ⟨dxf, lsf, Df, f1, f2, f3, fn1, fn2, fn3, f4⟩ := id Ff.ex
      obtain ⟨fw1, fw2, fw3⟩ := f4 t hmem
      walk_at "rd"
      refine ⟨xf, dxf, _, rfl, f1, fF_noW (by decide +kernel), ?_⟩
      walk_at "rd"
      intro l1 hl1
      have s1 := same_upd (o := .lst [.int (j : Int)]) hl1
      have fw1' := s1 _ _ fw1
      have el1 : upd Hf l1 (.lst [.int (j : Int)]) l1 = some (.lst [.int (j : Int)]) := upd_same
      have f1' := s1 _ _ f1
      generalize upd Hf l1 (.lst [.int (j : Int)]) = Hg at s1 fw1' el1 f1'
      walk_at "rd"
      refine ⟨t.wl, l1, _, _, rfl, rfl, fw1', el1, by rw [List.length_map, ens, sizeLine_eq]; show e.2.length + 1 ≤ _; omega, fun wl2 hwl2 => ?_⟩
      have Fg := Ff.same s1
      have s2 := same_upd (o := .lst (t.ns.map V.int ++ [.int (j : Int)])) hwl2
      have ewl2 : upd Hg wl2 (.lst (t.ns.map V.int ++ [.int (j : Int)])) wl2 = some (.lst ((e.2 ++ [(j : Int)]).map V.int)) := by
        rw [upd_same, List.map_append, ens]
        rfl
      have rz1' : Rp (upd Hg wl2 (.lst (t.ns.map V.int ++ [.int (j : Int)]))) (.ref qs) (stepD xs b rs e.1 j).k.data := by
        rw [Sd.k_d]
        exact (rz1.keep (Tk.of s1)).keep (Tk.of s2)
      generalize upd Hg wl2 (.lst (t.ns.map V.int ++ [.int (j : Int)])) = Hh at s2 ewl2 rz1'
      have Fh := Fg.same s2
      walk_at "rd"
      have hra := rowB_at (f := stepD xs b rs e.1) (hit := hitW (some (wg, wp, wx))) (lc := min lim 900) (ways := e.2) (L := L1) hjl
      have keys1 := hTL1.keys
      have lts1 := hTL1.len
      refine ⟨H, Hg, xf, qs, wl2, lim, ts1, tk + 1, (stepD xs b rs e.1 j).k, e.2 ++ [(j : Int)], rfl, Fg, hwl2, s2, ewl2, rz1', Sd.k_depth _, by omega, hlim, fun hin H' s' => ?_, fun hin hl H' F' tk' => ?_, fun hin hl d H' hd hd2 s' => ?_⟩
      · rw [keys1] at hin
        have hput : putB (min lim 900) L1 (stepD xs b rs e.1 j) (e.2 ++ [(j : Int)]) = some L1 := if_pos hin
        rw [hput] at hra
        walk_at "rd"
        refine ⟨rfl, ?_⟩
        walk_at "rd"
        refine rd_wn ?_
        walk_at "rd"
        have F2 := Fh.same s'
        have rthere : Rp H' (.ref qs) (stepD xs b rs e.1 j).d := by
          have := rz1'.keep (Tk.of s')
          rw [Sd.k_d] at this
          exact this
        refine ⟨_, _, wg, wp, wx, stepD xs b rs e.1 j, rfl, rwv.keep (Tk.of F2.sm), rthere, wg0, (wok _ wfs).1, wp0, (wok _ wfs).2, fun Hw sw => ?_⟩
        have Fw := F2.same sw
        walk_at "rd"
        refine rd_ifb (fun hh => ?_) (fun hh => ?_)
        · dsimp only at hra
          rw [if_pos hh] at hra
          have hres2 : res = .hit L1 (e.2 ++ [(j : Int)]) := by
            rw [← hb, bfsB_at he, ← hrow, hra]
          obtain ⟨dxw, lsw, Dw, y1, y2, y3, m1, m2, m3, y4⟩ := id Fw.ex
          obtain ⟨z1', z2', z3'⟩ := y4 t hmem
          walk_at "rd"
          refine ⟨xf, CI, dxw, _, _, rfl, y1, T.cl, T.n_things, fF_things, ?_⟩
          walk_at "rd"
          intro l2 hl2
          have sl := same_upd (o := .lst [.int (j : Int)]) hl2
          have el2 : upd Hw l2 (.lst [.int (j : Int)]) l2 = some (.lst [.int (j : Int)]) := upd_same
          have zw := sl _ _ z1'
          have Fl := Fw.same sl
          have y2l := sl _ _ y2
          generalize upd Hw l2 (.lst [.int (j : Int)]) = Hl at sl el2 zw Fl y2l
          refine ⟨t.wl, l2, _, _, rfl, rfl, zw, el2, by rw [List.length_map, ens, sizeLine_eq]; show e.2.length + 1 ≤ _; omega, fun wl3 hwl3 => ?_⟩
          have sm := same_upd (o := .lst (t.ns.map V.int ++ [.int (j : Int)])) hwl3
          have ewl3 : upd Hl wl3 (.lst (t.ns.map V.int ++ [.int (j : Int)])) wl3 = some (.lst ((e.2 ++ [(j : Int)]).map V.int)) := by
            rw [upd_same, List.map_append, ens]
            rfl
          have Fm := Fl.same sm
          have y2m := sm _ _ y2l
          have nwl3 := Fl.sm.free hwl3
          generalize upd Hl wl3 (.lst (t.ns.map V.int ++ [.int (j : Int)])) = Hm at sm ewl3 Fm y2m
          walk_at "rd"
          intro pp hpp
          have sp := same_upd (o := .tup [.ref lsw, .ref wl3]) hpp
          have Fp := Fm.same sp
          exact k2 _ _ hres2 pp lsw wl3 _ _ upd_same (sp _ _ y2m) (TL.rp hTL1 Fp.ks) m2 (sp _ _ ewl3) nwl3 Fp.sm
        dsimp only at hra
        rw [if_neg (by rw [hh]; decide)] at hra
        walk_at "rd"
        exact ⟨L1, ts1, _, _, _, _, rfl, Fw, hTL1, hL1, hwf1, hmem, hjl, hra.symm.trans hrow⟩
      · rw [keys1] at hin
        by_cases h9 : (L1.length : Int) < min lim 900
        case neg =>
          have hput : putB (min lim 900) L1 (stepD xs b rs e.1 j) (e.2 ++ [(j : Int)]) = none := by
            unfold putB
            rw [if_neg hin, if_neg h9]
          rw [hput] at hra
          have : res = .many := by
            rw [← hb, bfsB_at he, ← hrow, hra]
          exact absurd this (hcap (by omega))
        have hput : putB (min lim 900) L1 (stepD xs b rs e.1 j) (e.2 ++ [(j : Int)]) = some (L1 ++ [(stepD xs b rs e.1 j, e.2 ++ [(j : Int)])]) := by
          unfold putB
          rw [if_neg hin, if_pos h9]
        rw [hput] at hra
        walk_at "rd"
        refine ⟨rfl, ?_⟩
        walk_at "rd"
        refine rd_wn ?_
        walk_at "rd"
        have F2 := F'
        have rthere : Rp H' (.ref qs) (stepD xs b rs e.1 j).d := by
          have := rz1'.keep tk'
          rw [Sd.k_d] at this
          exact this
        refine ⟨_, _, wg, wp, wx, stepD xs b rs e.1 j, rfl, rwv.keep (Tk.of F2.sm), rthere, wg0, (wok _ wfs).1, wp0, (wok _ wfs).2, fun Hw sw => ?_⟩
        have Fw := F2.same sw
        walk_at "rd"
        refine rd_ifb (fun hh => ?_) (fun hh => ?_)
        · dsimp only at hra
          rw [if_pos hh] at hra
          have hres2 : res = .hit (L1 ++ [(stepD xs b rs e.1 j, e.2 ++ [(j : Int)])]) (e.2 ++ [(j : Int)]) := by
            rw [← hb, bfsB_at he, ← hrow, hra]
          obtain ⟨dxw, lsw, Dw, y1, y2, y3, m1, m2, m3, y4⟩ := id Fw.ex
          obtain ⟨z1', z2', z3'⟩ := y4 t (List.mem_append_left _ hmem)
          walk_at "rd"
          refine ⟨xf, CI, dxw, _, _, rfl, y1, T.cl, T.n_things, fF_things, ?_⟩
          walk_at "rd"
          intro l2 hl2
          have sl := same_upd (o := .lst [.int (j : Int)]) hl2
          have el2 : upd Hw l2 (.lst [.int (j : Int)]) l2 = some (.lst [.int (j : Int)]) := upd_same
          have zw := sl _ _ z1'
          have Fl := Fw.same sl
          have y2l := sl _ _ y2
          generalize upd Hw l2 (.lst [.int (j : Int)]) = Hl at sl el2 zw Fl y2l
          refine ⟨t.wl, l2, _, _, rfl, rfl, zw, el2, by rw [List.length_map, ens, sizeLine_eq]; show e.2.length + 1 ≤ _; omega, fun wl3 hwl3 => ?_⟩
          have sm := same_upd (o := .lst (t.ns.map V.int ++ [.int (j : Int)])) hwl3
          have ewl3 : upd Hl wl3 (.lst (t.ns.map V.int ++ [.int (j : Int)])) wl3 = some (.lst ((e.2 ++ [(j : Int)]).map V.int)) := by
            rw [upd_same, List.map_append, ens]
            rfl
          have Fm := Fl.same sm
          have y2m := sm _ _ y2l
          have nwl3 := Fl.sm.free hwl3
          generalize upd Hl wl3 (.lst (t.ns.map V.int ++ [.int (j : Int)])) = Hm at sm ewl3 Fm y2m
          walk_at "rd"
          intro pp hpp
          have sp := same_upd (o := .tup [.ref lsw, .ref wl3]) hpp
          have Fp := Fm.same sp
          exact k2 _ _ hres2 pp lsw wl3 _ _ upd_same (sp _ _ y2m) (TL.rp (hTL1.snoc rfl) Fp.ks) m2 (sp _ _ ewl3) nwl3 Fp.sm
        dsimp only at hra
        rw [if_neg (by rw [hh]; decide)] at hra
        walk_at "rd"
        refine ⟨_, _, _, _, _, _, rfl, Fw, hTL1.snoc rfl, by rw [List.length_append]; show ((L1.length + 1 : Nat) : Int) ≤ _; omega, fun e' he' => ?_, List.mem_append_left _ hmem, hjl, hra.symm.trans hrow⟩
        rcases List.mem_append.mp he' with h | h
        · exact hwf1 e' h
        · rw [List.mem_singleton.mp h]
          refine ⟨wfs, ?_⟩
          show (e.2 ++ [(j : Int)]).length ≤ tk + 1
          rw [List.length_append]
          show e.2.length + 1 ≤ tk + 1
          omega
      · rw [keys1] at hin
        have hput : putB (min lim 900) L1 (stepD xs b rs e.1 j) (e.2 ++ [(j : Int)]) = none := by
          unfold putB
          rw [if_neg hin, if_neg (by omega)]
        rw [hput] at hra
        have hmany : res = .many := by
          rw [← hb, bfsB_at he, ← hrow, hra]
        exact k3 hmany d H' ((Fh.sm).free hd) hd2 (Fh.sm.trans s')
    rintro σ2 Hd ⟨L1, ts1, c8, c9, c10, c11, rfl, Fd, hTL1, hL1, hwf1, hmem, hjm, hrow⟩
    rw [lms, List.drop_eq_nil_of_le (by rw [List.length_range]; exact Nat.le_refl _)] at hrow
    refine ⟨i, Nat.lt_succ_self i, tk + 1, L1, ts1, _, _, _, _, _, _, rfl, Fd, hTL1, hL1, hwf1, by omega, ?_⟩
    rw [← hb, bfsB_at he, ← hrow]
    rfl
end
open PySem PySem.Spec L2
section
variable {P : Program} {w : World} {K : PySem.W.Frag} {mg : Str → Option Value} {base : Heap}
theorem log_w {z : Int} (h : z.natAbs < 2 ^ 200) : z.natAbs.log2 < 1920 := Nat.lt_of_lt_of_le (PySem.Flt.log2_lt_of (by decide) h) (by decide)
def spRefWish (C : Addr) : Sp := fun vs H Q _ => ∃ (x : Addr) (us : List V) (xs : List Sg) (b : Int) (wv : V) (wg wp : Int) (wx : Wd), vs = [.ref x, wv] ∧ Mch C H x us xs b ∧ Rp H wv (wishD (some (wg, wp, wx))) ∧ 0 ≤ wg ∧ wg < (xs.length : Int) ∧ 0 ≤ wp ∧ wp < ((sgAt xs wg).ws.length : Int) ∧ ∀ H', Same H H' → Q .non H'
theorem ok_refWish {f C : Addr} {fd : FuncData} (B : BT mg) (T : MC K mg C) (F : Fun K "refuse_wish" "refuse_wish" s_refuse_wish f fd) (hm : mg "refuse_wish" = some (.ref f)) (M_len : Mth P w K mg base C "__len__" 1 ["self"] (spLen C)) (M_seg : Mth P w K mg base C "segment" 3 ["self", "number"] (spSegAt C)) (C_is_below : Cal P w K mg base "is_below" 2 ["number", "bound"] spBelow) : Cal P w K mg base "refuse_wish" 4 ["machine", "wish"] (spRefWish C) := by
  refine ⟨f, fd, hm, F.kp, F.binds (ps := ["machine", "wish"]) fun _ _ _ _ _ _ us hl => match us, hl with | [_, _], _ => rfl, ?_⟩
  refine F.ok sc_refuse_wish (fun vs H Q E h => ?_) (fun cdv A outer s H vs Q E hr h => ?_)
  · obtain ⟨x, us, xs, b, wv, wg, wp, wx, rfl, _⟩ := h
    rfl
  · obtain ⟨x, us, xs, b, wv, wg, wp, wx, rfl, M, rv, wg0, wgN, wp0, wpN, k⟩ := h
    refine ⟨_, (pss_cons (ps_asg (pv 1) (pg_tup (by rfl) (pgs_cons (pg_name (i := 2) sc_refuse_wish.nd rfl (Or.inl rfl)) (pgs_cons (pg_name (i := 3) sc_refuse_wish.nd rfl (Or.inl rfl)) (pgs_cons (pg_name (i := 4) sc_refuse_wish.nd rfl (Or.inl rfl)) pgs_nil)))))
 (pss_one (ps_if (PW.pt (pw_or (pt_not (pt_val (pe_cal C_is_below (hr.mono (by omega)) rfl (pa_cons (pv 2) (pa_cons (pe_callB (r := rLenO C (spLen C) E0) (cr_len M_len (hr.mono (by omega))) rfl B.g_len PySem.boot_len (pa_cons (pv 0) pa_nil)) pa_nil))))) (pw_or1 (pt_not (pt_val (pe_cal C_is_below (hr.mono (by omega)) rfl (pa_cons (pv 3) (pa_cons (pe_callB (cr_lenS (K := K)) rfl B.g_len PySem.boot_len (pa_cons (pe_ix (r := rIxT K) ix_tup (pe_mth M_seg T.cl (hr.mono (by omega)) (pv 0) (pa_cons (pv 2) pa_nil)) pe_int (fun _ _ => rfl)) pa_nil)) pa_nil)))))))) (pss_one ps_never) pss_nil))), ?_⟩
    have lu : us.length = xs.length := by rw [M.rp.length, List.length_map]
    have l8 := M.l8
    obtain ⟨mdx, mq, mh1, mh2⟩ := id M.at_
    obtain ⟨pv, vv, rfl, hpv, hav⟩ := rv.tup_inv
    obtain ⟨y0, yr, rfl, z0, hav⟩ := hav.cons_inv
    obtain ⟨y1, yr, rfl, z1, hav⟩ := hav.cons_inv
    obtain ⟨y2, yr, rfl, z2, hav⟩ := hav.cons_inv
    have e := hav.nil_inv; subst e
    have e := z0.int_inv; subst e
    have e := z1.int_inv; subst e
    obtain ⟨sv, hsv, rsv⟩ := M.rp.get2 (i := wg.toNat) (d := (sgAt xs wg).d) (by
      unfold sgAt
      rw [List.getElem?_map, List.getD_eq_getElem?_getD, List.getElem?_eq_getElem (by omega)]
      rfl)
    obtain ⟨p1, v1, rfl, hp1, ha⟩ := rsv.tup_inv
    obtain ⟨x0, xr, rfl, h0, ha⟩ := ha.cons_inv
    obtain ⟨x1, xr, rfl, h1, ha⟩ := ha.cons_inv
    obtain ⟨x2, xr, rfl, h2, ha⟩ := ha.cons_inv
    obtain ⟨x3, xr, rfl, h3, ha⟩ := ha.cons_inv
    obtain ⟨x4, xr, rfl, h4, ha⟩ := ha.cons_inv
    have e := ha.nil_inv; subst e
    obtain ⟨pw, vw, rfl, hpw, haw⟩ := h3.tup_inv
    have lvw : vw.length = (sgAt xs wg).ws.length := by rw [haw.length, List.length_map]
    walk_at "rds"
    refine ⟨x, mdx, _, rfl, mh1, ?_⟩
    refine ⟨x, us, b, rfl, M.at_, ⟨_, rfl, by omega, by omega, ?_⟩⟩
    rw [lu]
    walk_at "rd"
    refine ⟨wg, _, rfl, ?_⟩
    rw [below_of wg0 wgN]
    walk_at "rd"
    refine ⟨x, mdx, _, rfl, mh1, mFlds_no mq b (by decide +kernel) (by decide +kernel), ?_⟩
    walk_at "rd"
    refine ⟨x, us, b, wg, _, rfl, M.at_, wg0, by omega, hsv, ?_⟩
    walk_at "rd"
    refine ⟨pw, vw, rfl, .inr (SqT.of hpw), ?_⟩
    rw [lvw]
    walk_at "rd"
    refine ⟨wp, _, rfl, ?_⟩
    rw [below_of wp0 wpN]
    walk_at "rd"
    exact k _ (Same.refl _)
def spWay (C TM : Addr) : Sp := fun vs H Q E => ∃ (x q M : Addr) (us ms : List V) (xs : List Sg) (b : Int) (sd : Sd) (rs : List Rw) (wv : V) (wg wp : Int) (wx : Wd) (lim : Int), vs = [.ref x, .ref q, .ref M, wv, .int lim] ∧ Mch C H x us xs b ∧ Rp H (.ref q) sd.d ∧ GW xs b sd ∧ H M = some (.lst ms) ∧ RpAll H ms (rs.map Rw.d) ∧ (∀ r ∈ rs, RwForm r ∧ rowFits r (xs.length : Int) = true) ∧ rs.length ≤ 900 ∧
  Rp H wv (wishD (some (wg, wp, wx))) ∧ 0 ≤ wg ∧ wg < (xs.length : Int) ∧ 0 ≤ wp ∧ wp < ((sgAt xs wg).ws.length : Int) ∧ 1 ≤ lim ∧ lim.natAbs.log2 < 1920 ∧ (900 < lim → bfs0 (stepD xs b rs) (hitW (some (wg, wp, wx))) (min lim 900) rs.length sd ≠ .many) ∧
  (∀ L, bfs0 (stepD xs b rs) (hitW (some (wg, wp, wx))) (min lim 900) rs.length sd = .run L → ∀ (H' : Hp), Same H H' → Q .non H') ∧
  (∀ L w, bfs0 (stepD xs b rs) (hitW (some (wg, wp, wx))) (min lim 900) rs.length sd = .hit L w → ∀ (wl : Addr) (H' : Hp), H' wl = some (.lst (w.map V.int)) → H wl = none → Same H H' → Q (.ref wl) H') ∧
  (bfs0 (stepD xs b rs) (hitW (some (wg, wp, wx))) (min lim 900) rs.length sd = .many → ∀ (d : Addr) (H' : Hp), H d = none → H' d = some (.xd [("what", .int lim)]) → Same H H' → E (.ref TM) (some d) H')
theorem ok_way {f C CI TM : Addr} {fd : FuncData} (B : BT mg) (F : FunD K "way" "way" (defArgs s_way) (defBody s_way) (defScope s_way) [] [("limit", .int 400)] f fd)
    (C_refuse_faulty : Cal P w K mg base "refuse_faulty" 5 ["machine", "deeds"] (spRefuse C)) (C_refuse_wish : Cal P w K mg base "refuse_wish" 4 ["machine", "wish"] (spRefWish C)) (C_search : CalX P w K mg base "search" 11 ["machine", "stand", "menu", "wish", "limit"] (spSearchW C CI TM)) :
    FnOk P w K mg base (L2.CX P w) 12 f fd ["machine", "stand", "menu", "wish", "limit"] (spWay C TM) := by
  refine F.ok sc_way (fun vs H Q E h => ?_) (fun cdv A outer s H vs Q E hr h => ?_)
  · obtain ⟨x, q, M, us, ms, xs, b, sd, rs, wv, wg, wp, wx, lim, rfl, _⟩ := h
    rfl
  · obtain ⟨x, q, M, us, ms, xs, b, sd, rs, wv, wg, wp, wx, lim, rfl, Mc, rq, gw, hM, rms, hrs, n9, rwv, wg0, wgN, wp0, wpN, lim1, hlim, hcap, k1, k2, k3⟩ := h
    refine ⟨_, (pss_cons (ps_expr (pe_cal C_refuse_faulty (hr.mono (by omega)) rfl (pa_cons (pv 0) (pa_cons (pv 2) pa_nil))))
 (pss_cons (ps_expr (pe_cal C_refuse_wish (hr.mono (by omega)) rfl (pa_cons (pv 0) (pa_cons (pv 3) pa_nil))))
 (pss_cons (ps_asg (pe_calS C_search (takes_of rfl rfl rfl rfl) (hr.mono (by omega)) rfl (pa_cons (pv 0) (pa_cons (pv 1) (pa_cons (pv 2) (pa_cons (pv 3) (pa_cons (pv 4) pa_nil)))))) (pg_tup (by rfl) (pgs_cons (pg_name (i := 5) sc_way.nd rfl (Or.inl rfl)) (pgs_cons (pg_name (i := 6) sc_way.nd rfl (Or.inl rfl)) pgs_nil))))
 (pss_one (ps_ret (pv 6)))))), ?_⟩
    walk_at "rds"
    refine ⟨x, M, us, xs, b, ms, rs, rfl, Mc.at_, by rw [Mc.rp.length, List.length_map], Mc.l8, hM, rms, hrs, fun H1 s1 => ?_⟩
    have Mc1 : Mch C H1 x us xs b := ⟨Mc.at_.same s1, Mc.rp.keep (Tk.of s1), Mc.l8, Mc.b2, Mc.ok⟩
    walk_at "rd"
    refine ⟨x, us, xs, b, wv, wg, wp, wx, rfl, Mc1, rwv.keep (Tk.of s1), wg0, wgN, wp0, wpN, fun H2 s2 => ?_⟩
    have s12 := s1.trans s2
    have Mc2 : Mch C H2 x us xs b := ⟨Mc.at_.same s12, Mc.rp.keep (Tk.of s12), Mc.l8, Mc.b2, Mc.ok⟩
    walk_at "rd"
    refine ⟨x, q, M, us, ms, xs, b, sd, rs, wv, wg, wp, wx, lim, rfl, Mc2, rq.keep (Tk.of s12), gw, s12 _ _ hM, rms.keep (Tk.of s12), hrs, n9, rwv.keep (Tk.of s12), wg0, wgN, wp0, wpN, lim1, hlim, hcap, fun L hL p ls qs H3 hp hls rqs nls s3 => ?_, fun L w hL p ls wl qs H3 hp hls rqs nls hwl nwl s3 => ?_, fun hm d H3 hd hd2 s3 => ?_⟩
    · walk_at "rd"
      exact k1 L hL H3 (s12.trans s3)
    · walk_at "rd"
      exact k2 L w hL wl H3 hwl (s12.free nwl) (s12.trans s3)
    · exact k3 hm d H3 (s12.free hd) hd2 (s12.trans s3)
end
open PySem PySem.Spec L2
section
variable {P : Program} {w : World} {K : PySem.W.Frag} {mg : Str → Option Value} {base : Heap}
/-- a paper judged -/
def phR (f : Sd → Nat → Sd) (hit : Sd → Bool) (m : Nat) (sd : Sd) (ss : List Sd) : Bool := decide (sd.k ∈ ss.map Sd.k) && ss.all fun s => !hit s && (List.range m).all fun j => decide ((f s j).k ∈ ss.map Sd.k)
theorem phR_no {f : Sd → Nat → Sd} {hit : Sd → Bool} {m : Nat} {sd s : Sd} {ss : List Sd} (hs : s ∈ ss) (h : (!hit s && (List.range m).all fun j => decide ((f s j).k ∈ ss.map Sd.k)) = false) : phR f hit m sd ss = false := by
  unfold phR
  have e : (ss.all fun s => !hit s && (List.range m).all fun j => decide ((f s j).k ∈ ss.map Sd.k)) = false := by
    rw [List.all_eq_false]
    exact ⟨s, hs, by rw [h]; decide⟩
  rw [e, Bool.and_false]
def spPaperHolds (C : Addr) : Sp := fun vs H Q _ => ∃ (x q M p : Addr) (us ms qs : List V) (xs : List Sg) (b : Int) (sd : Sd) (rs : List Rw) (wv : V) (wg wp : Int) (wx : Wd) (ss : List Sd), vs = [.ref x, .ref q, .ref M, wv, .ref p] ∧ Mch C H x us xs b ∧ Rp H (.ref q) sd.d ∧ H M = some (.lst ms) ∧ RpAll H ms (rs.map Rw.d) ∧ (∀ r ∈ rs, RwForm r ∧ rowFits r (xs.length : Int) = true) ∧ rs.length ≤ 900 ∧
  Rp H wv (wishD (some (wg, wp, wx))) ∧ 0 ≤ wg ∧ wg < (xs.length : Int) ∧ 0 ≤ wp ∧ wp < ((sgAt xs wg).ws.length : Int) ∧ H p = some (.lst qs) ∧ RpAll H qs (ss.map Sd.d) ∧ (∀ s ∈ ss, GW xs b s) ∧ ss.length ≤ 900 ∧ ∀ H', Same H H' → Q (.bl (phR (stepD xs b rs) (hitW (some (wg, wp, wx))) rs.length sd ss)) H'
theorem fn_paperHolds {f fD C CR CF : Addr} {fd fdD : FuncData} {dsD : List Value} (B : BT mg) (F : Fun K "paper_holds" "paper_holds" s_paper_holds f fd)
    (C_refuse_faulty : Cal P w K mg base "refuse_faulty" 5 ["machine", "deeds"] (spRefuse C)) (C_refuse_wish : Cal P w K mg base "refuse_wish" 4 ["machine", "wish"] (spRefWish C)) (C_wish_holds : Cal P w K mg base "wish_holds" 1 ["wish", "stand"] spWishHolds)
    (hmD : mg "done" = some (.ref fD)) (hkD : PySem.W.keepIn K (.ref fD) = true) (bD : Binds K fdD ["machine", "stand", "deed", "most"] dsD) (vD : Vals [.int 100] dsD) (F_done : FnOk P w K mg base CX0 10 fD fdD ["machine", "stand", "deed", "most"] (spDone C CR CF actOps)) :
    FnOk P w K mg base CX0 11 f fd ["machine", "stand", "menu", "wish", "paper"] (spPaperHolds C) := by
  refine F.ok sc_paper_holds (fun vs H Q E h => ?_) (fun cdv A outer s H vs Q E hr h => ?_)
  · obtain ⟨x, q, M, p, us, ms, qs, xs, b, sd, rs, wv, wg, wp, wx, ss, rfl, _⟩ := h
    rfl
  · obtain ⟨x, q, M, p, us, ms, qs, xs, b, sd, rs, wv, wg, wp, wx, ss, rfl, Mc, rq, hM, rms, hrs, n9, rwv, wg0, wgN, wp0, wpN, hp, rqs, gss, s9, k⟩ := h
    refine ⟨_, (pss_cons (ps_expr (pe_cal C_refuse_faulty (hr.mono (by omega)) rfl (pa_cons (pv 0) (pa_cons (pv 2) pa_nil))))
 (pss_cons (ps_expr (pe_cal C_refuse_wish (hr.mono (by omega)) rfl (pa_cons (pv 0) (pa_cons (pv 3) pa_nil))))
 (pss_cons (ps_set (i := 5) sc_paper_holds.nd rfl (Or.inr rfl) (pe_dcN (own := [("each", 6)]) (g := gName 6) hr.units rfl sc_paper_holds.nd (pi_listK (K := K) (pv 4)) (blkOk_by (own := [("each", 6)]) (N := ["machine", "stand", "menu", "wish", "paper", "listed", "each", "deed"]) (sc := defScope s_paper_holds) (by decide +kernel)) (fun _ _ _ _ _ => (pg_name (i := 6) sc_paper_holds.nd rfl (by first | exact Or.inl rfl | exact Or.inr rfl))) (fun _ _ _ _ _ => (pv 6)) (fun _ _ _ _ _ => pe_bl)))
 (pss_cons (ps_if (pt_cmpR (op_notInN hr.units) (pv 1) (pv 5) (by rfl)) (pss_one (ps_ret pe_bl)) pss_nil)
 (pss_cons (ps_lock (ps_for PassesOwn.never rfl (pi_keysN (pv 5)) (pg_name (i := 6) sc_paper_holds.nd rfl (Or.inr rfl))
 (pss_cons (ps_if (pt_val (pe_cal C_wish_holds (hr.mono (by omega)) rfl (pa_cons (pv 3) (pa_cons (pv 6) pa_nil)))) (pss_one (ps_ret pe_bl)) pss_nil)
 (pss_one (ps_if (pt_not (pt_val (pe_callB (r := rAll K) (cr_all rfl) rfl B.g_all (by decide +kernel) (pa_cons (pe_lc (own := [("deed", 7)]) (g := gName 7) (tt := tYes) rfl sc_paper_holds.nd (pi_listK (K := K) (pv 2)) (blkOk_by (own := [("deed", 7)]) (N := ["machine", "stand", "menu", "wish", "paper", "listed", "each", "deed"]) (sc := defScope s_paper_holds) (by decide +kernel)) (fun _ _ _ _ _ => (pg_name (i := 7) sc_paper_holds.nd rfl (by first | exact Or.inl rfl | exact Or.inr rfl))) (fun _ _ _ _ _ => pts_nil) (fun _ _ _ _ _ => (pe_cmpR (op_inNF hr.units) (pe_ix (r := rIxT K) ix_tup (pe_call F_done (hr.mono (by omega)) rfl hmD hkD bD vD pass0 (pa_cons (pv 0) (pa_cons (pv 6) (pa_cons (pv 7) pa_nil)))) pe_int (fun _ _ => rfl)) (pv 5) (by rfl)))) pa_nil)))) (pss_one (ps_ret pe_bl)) pss_nil)))))
 (pss_one (ps_ret pe_bl))))))), ?_⟩
    obtain ⟨pw, vw, rfl, hpw, _⟩ := id rwv.tup_inv
    walk_at "rds"
    refine ⟨x, M, us, xs, b, ms, rs, rfl, Mc.at_, by rw [Mc.rp.length, List.length_map], Mc.l8, hM, rms, hrs, fun H1 s1 => ?_⟩
    have Mc1 : Mch C H1 x us xs b := ⟨Mc.at_.same s1, Mc.rp.keep (Tk.of s1), Mc.l8, Mc.b2, Mc.ok⟩
    walk_at "rd"
    refine ⟨x, us, xs, b, .ref pw, wg, wp, wx, rfl, Mc1, rwv.keep (Tk.of s1), wg0, wgN, wp0, wpN, fun H2 s2 => ?_⟩
    have s12 := s1.trans s2
    walk_at "rd"
    refine rd_dcN ?_
    walk_at "rd"
    refine ⟨p, rfl, ⟨_, SqL.of (s12 _ _ hp)⟩, fun D hD => ?_⟩
    have lqs : qs.length = ss.length := by rw [rqs.length, List.length_map]
    refine dcN_it (walk_list (xs := qs)) (fun i H' => ∃ es, H' D = some (dN P w D es) ∧ HasN H' es ((ss.take i).map Sd.k) ∧ Same H2 H') ⟨[], upd_same, .nil, same_upd hD⟩ (fun i H' _ p => by obtain ⟨_, _, _, s3⟩ := p; exact SqL.of (s3 _ _ (s12 _ _ hp))) ?_ ?_
    · rintro i y H3 H4 hi ⟨es, hDes, hN, s3⟩ ⟨rfl, hy⟩
      obtain ⟨d, hd, ry⟩ := rqs.get hy
      rw [List.getElem?_map] at hd
      obtain ⟨z, hz, rfl⟩ := Option.map_eq_some_iff.mp hd
      replace ry := ry.keep (Tk.of (s12.trans s3))
      obtain ⟨e, ve, rfl, _⟩ := id ry.tup_inv
      have rk : Rp H4 (.ref e) z.k.data := by rw [Sd.k_d]; exact ry
      walk_at "rd"
      refine ⟨rfl, ?_⟩
      walk_at "rd"
      have hlen := hN.len
      rw [List.length_map, List.length_take] at hlen
      have eT : (ss.take (i + 1)).map Sd.k = (ss.take i).map Sd.k ++ [z.k] := by rw [List.take_add_one, hz, List.map_append]; rfl
      refine ⟨e, z.k, es, rfl, hDes, hN.keys, rk, z.k_depth, by omega, putN es z.k e (.bl true), upd_same, ?_, fun c o hc => ?_⟩
      · rw [eT]
        exact (hN.put rk z.k_depth).keep (Tk.dn hDes)
      · rw [upd_ne (ne_of_none hc hD)]
        exact s3 c o hc
    rintro H3 ⟨es, hDes, hN, s3⟩
    rw [lqs, List.take_length] at hN
    have s123 := s12.trans s3
    walk_at "rd"
    have rqk : Rp H3 (.ref q) sd.k.data := by rw [Sd.k_d]; exact rq.keep (Tk.of s123)
    refine ⟨q, D, sd.k, es, rfl, rfl, hDes, hN.keys, rqk, sd.k_depth, _, rfl, ?_⟩
    rw [hN.at]
    refine rd_ifn (fun hin => ?_) (fun hin => ?_)
    case refine_2 =>
      have hk := k H3 s123
      have e : phR (stepD xs b rs) (hitW (some (wg, wp, wx))) rs.length sd ss = false := by
        unfold phR
        rw [hin]
        rfl
      rw [e] at hk
      walk_at "rd"
      exact hk
    walk_at "rd"
    refine rd_lock hDes True.intro fun od => ?_
    have neD : ∀ c o, H c = some o → c ≠ D := fun c o hc => ne_of_none (s12 c o hc) hD
    have sL : Same H (upd H3 D (.frz od (dN P w D es))) := fun c o hc => by rw [upd_ne (neD c o hc)]; exact s123 c o hc
    have hL : upd H3 D (.frz od (dN P w D es)) D = some (.frz od (dN P w D es)) := upd_same
    have hNL := hN.keep (Tk.dn (o := .frz od (dN P w D es)) hDes)
    generalize upd H3 D (.frz od (dN P w D es)) = HL at sL hL hNL ⊢
    have unl : ∀ H', Same HL H' → Same H (upd H' D (dN P w D es)) := fun H' s c o hc => by rw [upd_ne (neD c o hc)]; exact s c o (sL c o hc)
    have wok := fun (s : Sd) (h : GW xs b s) => wish_at h wg0 wgN wpN
    have lms : ms.length = rs.length := by rw [rms.length, List.length_map]
    walk_at "rd"
    refine rd_ikN ?_
    walk_at "rd"
    refine ⟨D, od, es, rfl, hL, hNL.keys, ?_⟩
    refine for_inv walk_keysN (fun j σ' H' => ∃ c6 c7, σ' = [some (.ref x), some (.ref q), some (.ref M), some (.ref pw), some (.ref p), some (.ref D), c6, c7] ∧ Same HL H' ∧ ∀ e ∈ es.take j, ∀ s ∈ ss, s.k = e.1 → (!(hitW (some (wg, wp, wx))) s && (List.range rs.length).all fun j => decide ((stepD xs b rs s j).k ∈ ss.map Sd.k)) = true)
      ⟨_, _, rfl, Same.refl _, fun e he => by rw [List.take_zero] at he; cases he⟩ (fun j σ' H' _ pp => by obtain ⟨_, _, _, sj, _⟩ := pp; exact ⟨sj _ _ hL, hNL.keys.keep (Tk.of sj)⟩) ?_ ?_
    · rintro B' j v0 σ2 Hd He hj ⟨c6, c7, rfl, sd1, hok⟩ ⟨rfl, e, he, rfl⟩
      obtain ⟨s, hs, hsk⟩ := List.mem_map.mp ((hNL.mem e.1).mp (List.mem_map.mpr ⟨e, List.mem_of_getElem? he, rfl⟩))
      have sH := sL.trans sd1
      have rts : Rp He (.ref e.2.1) s.d := by
        have := (hNL.keys e (List.mem_of_getElem? he)).1.keep (Tk.of sd1)
        rw [← hsk, Sd.k_d] at this
        exact this
      obtain ⟨swf, s18⟩ := gss s hs
      walk_at "rd"
      refine ⟨.ref pw, .ref e.2.1, wg, wp, wx, s, rfl, rwv.keep (Tk.of sH), rts, wg0, (wok s ⟨swf, s18⟩).1, wp0, (wok s ⟨swf, s18⟩).2, fun Hf sf => ?_⟩
      have sLf := sd1.trans sf
      have sHf := sL.trans sLf
      walk_at "rd"
      refine rd_ifb (fun hh => ?_) (fun hh => ?_)
      · walk_at "rd"
        have hk := k _ (unl _ sLf)
        rw [phR_no hs (by rw [hh]; rfl)] at hk
        exact ⟨sLf _ _ hL, hk⟩
      walk_at "rd"
      refine ⟨M, rfl, ⟨_, SqL.of (sHf _ _ hM)⟩, fun D2 hD2 => ?_⟩
      refine lc_it (walk_list (xs := ms)) (CompL D2 Hf (List.range rs.length) (fun j => V.bl (decide ((stepD xs b rs s j).k ∈ ss.map Sd.k)))) (CompL.start hD2) (fun i H' _ pp => SqL.of (pp.2 _ _ (sHf _ _ hM))) ?_ ?_
      · rintro i z Hg Hg' hi pc ⟨rfl, hz⟩
        obtain ⟨d, hd, rz⟩ := rms.get hz
        rw [List.getElem?_map] at hd
        obtain ⟨r, hr1, rfl⟩ := Option.map_eq_some_iff.mp hd
        obtain ⟨rf, rk⟩ := hrs r (List.mem_of_getElem? hr1)
        have hil : i < rs.length := (List.getElem?_eq_some_iff.mp hr1).1
        have sg := sHf.trans pc.2
        have Mcg : Mch C Hg' x us xs b := ⟨Mc.at_.same sg, Mc.rp.keep (Tk.of sg), Mc.l8, Mc.b2, Mc.ok⟩
        have rtg : Rp Hg' (.ref e.2.1) s.d := (rts.keep (Tk.of sf)).keep (Tk.of pc.2)
        have estep : stepD xs b rs s i = (deedR xs b 100 (initR s) r.op r.ns).1.sd s.ring := by
          unfold stepD
          rw [List.getD_eq_getElem?_getD, hr1]
          rfl
        obtain ⟨op, ns⟩ := r
        obtain ⟨ho, hk⟩ := row_okR rf rk
        have wfn := deed_good (b := b) (n := 100) (fun x hx => Mc.ok x hx) swf ho hk (by decide) s.ring
        have l8 := Mc.l8
        walk_at "rd"
        refine ⟨rfl, ?_⟩
        walk_at "rd"
        refine ⟨x, us, xs, b, .ref e.2.1, z, s, op, ns, 100, rfl, Mcg, rtg, rz.keep (Tk.of sg), swf, ho, rf, rk, on_pre (n := 100) swf ho hk (by decide), ?_, fun zz Hh rzz sh => ?_⟩
        · have h1 : (deedR xs b 100 (initR s) op ns).1.me.length = xs.length := wfn.me
          show (deedR xs b 100 (initR s) op ns).1.me.length ≤ 900
          omega
        obtain ⟨qz, vz, rfl, hqz, haz⟩ := rzz.tup_inv
        obtain ⟨z1, zr, rfl, rz1, haz⟩ := haz.cons_inv
        obtain ⟨z2, zr, rfl, rz2, haz⟩ := haz.cons_inv
        have e3 := haz.nil_inv; subst e3
        replace rz1 : Rp Hh z1 (stepD xs b rs s i).d := by rw [estep]; exact rz1
        obtain ⟨qs1, vq, rfl, hqs, haq⟩ := id rz1.tup_inv
        have sLh := (sLf.trans pc.2).trans sh
        walk_at "rd"
        have rkh : Rp Hh (.ref qs1) (stepD xs b rs s i).k.data := by rw [Sd.k_d]; exact rz1
        refine ⟨qs1, D, od, (stepD xs b rs s i).k, es, rfl, rfl, sLh _ _ hL, hNL.keys.keep (Tk.of sLh), rkh, Sd.k_depth _, ?_⟩
        rw [hNL.at]
        exact pc.step hD2 (by omega) (by rw [List.getElem?_range hil]) sh rfl
      · intro Hg pc
        have hd2 := pc.end (by rw [List.length_range, lms])
        have sLg := sLf.trans pc.2
        walk_at "rd"
        refine rd_all (f := fun j => decide ((stepD xs b rs s j).k ∈ ss.map Sd.k)) hd2 ?_
        walk_at "rd"
        refine rd_ifn (fun hb => ?_) (fun hb => ?_)
        · walk_at "rd"
          refine ⟨_, _, rfl, sLg, fun e' he' s' hs' hk' => ?_⟩
          rw [List.take_add_one, he] at he'
          rcases List.mem_append.mp he' with h1 | h1
          · exact hok e' h1 s' hs' hk'
          · obtain rfl : e' = e := List.mem_singleton.mp h1
            obtain rfl : s' = s := Sd.k_inj (hk'.trans hsk.symm)
            rw [hh, hb]
            rfl
        · walk_at "rd"
          have hk := k _ (unl _ sLg)
          rw [phR_no hs (by rw [hb, Bool.and_false])] at hk
          exact ⟨sLg _ _ hL, hk⟩
    · rintro σ' He ⟨c6, c7, rfl, sd1, hok⟩
      refine ⟨sd1 _ _ hL, ?_⟩
      have hk := k _ (unl _ sd1)
      have e : phR (stepD xs b rs) (hitW (some (wg, wp, wx))) rs.length sd ss = true := by
        unfold phR
        rw [hin, Bool.true_and, List.all_eq_true]
        intro s hs
        obtain ⟨e, he, hek⟩ := List.mem_map.mp ((hNL.mem s.k).mpr (List.mem_map.mpr ⟨s, hs, rfl⟩))
        rw [List.take_length] at hok
        exact hok e he s hs hek.symm
      rw [e] at hk
      walk_at "rd"
      exact hk
theorem ok_paperHolds {f fD C CR CF : Addr} {fd fdD : FuncData} {dsD : List Value} (B : BT mg) (F : Fun K "paper_holds" "paper_holds" s_paper_holds f fd) (hm : mg "paper_holds" = some (.ref f))
    (C_refuse_faulty : Cal P w K mg base "refuse_faulty" 5 ["machine", "deeds"] (spRefuse C)) (C_refuse_wish : Cal P w K mg base "refuse_wish" 4 ["machine", "wish"] (spRefWish C)) (C_wish_holds : Cal P w K mg base "wish_holds" 1 ["wish", "stand"] spWishHolds)
    (hmD : mg "done" = some (.ref fD)) (hkD : PySem.W.keepIn K (.ref fD) = true) (bD : Binds K fdD ["machine", "stand", "deed", "most"] dsD) (vD : Vals [.int 100] dsD) (F_done : FnOk P w K mg base CX0 10 fD fdD ["machine", "stand", "deed", "most"] (spDone C CR CF actOps)) :
    Cal P w K mg base "paper_holds" 11 ["machine", "stand", "menu", "wish", "paper"] (spPaperHolds C) := by
  refine ⟨f, fd, hm, F.kp, F.binds (ps := ["machine", "stand", "menu", "wish", "paper"]) fun _ _ _ _ _ _ us hl => match us, hl with | [_, _, _, _, _], _ => rfl, fn_paperHolds B F C_refuse_faulty C_refuse_wish C_wish_holds hmD hkD bD vD F_done⟩
end
open PySem PySem.Spec L2
section
variable {P : Program} {w : World} {K : PySem.W.Frag} {mg : Str → Option Value} {base : Heap}
def Lay (c : Str) : Prop := (PyData.str c).canLay0 = true
theorem spot_lay {s : Rn} {p w : Int} {c : Str} (h : spotR s p w = .error c) : Lay c := by
  unfold spotR at h
  cases e : s.ptr p with
  | none => rw [e] at h; cases h; unfold Lay; decide +kernel
  | some z =>
    obtain ⟨r, g, pl⟩ := z
    rw [e] at h
    dsimp only at h
    split at h
    · cases h
    · cases h; unfold Lay; decide +kernel
theorem read_lay {xs : List Sg} {s : Rn} {p w : Int} {c : Str} (h : readR xs s p w = .error c) : Lay c := by
  unfold readR at h
  cases hs : spotR s p w with
  | error c => rw [hs] at h; cases h; exact spot_lay hs
  | ok z =>
    obtain ⟨e1, g1, pl⟩ := z
    rw [hs] at h
    dsimp only at h
    split at h
    · cases h
    · cases h; unfold Lay; decide +kernel
theorem write_lay {xs : List Sg} {s s' : Rn} {p w : Int} {wd : Wd} {c : Str} (h : writeR xs s p w wd = (s', some c)) : Lay c := by
  unfold writeR at h
  cases hs : spotR s p w with
  | error c => rw [hs] at h; cases h; exact spot_lay hs
  | ok z =>
    obtain ⟨e1, g1, pl⟩ := z
    rw [hs] at h
    dsimp only at h
    split at h
    · cases h
    · cases h; unfold Lay; decide +kernel
theorem ent_lay {x : Sg} {pl e : Int} {c : Str} (h : enteredR x pl e = .error c) : Lay c := by
  unfold enteredR at h
  split at h
  · cases h; unfold Lay; decide +kernel
  split at h
  · cases h; unfold Lay; decide +kernel
  split at h
  · cases h
  split at h
  · cases h; unfold Lay; decide +kernel
  split at h
  · cases h; unfold Lay; decide +kernel
  · cases h
theorem flt_lay {xs : List Sg} {b : Int} {s s' : Rn} {op : Str} {ns : List Int} {c : Str} (ho : op ∈ actOps) (h : fnOf op xs b s ns = (s', some c)) : Lay c := by
  unfold actOps at ho
  simp only [List.mem_cons, List.not_mem_nil, or_false] at ho
  rcases ho with rfl | rfl | rfl | rfl | rfl | rfl | rfl | rfl | rfl | rfl | rfl | rfl
  · rw [fn_set] at h
    cases h
  · rw [fn_add] at h
    cases h
  · rw [fn_load] at h
    replace h : rLoad xs s (one ns) (two ns) = (s', some c) := h
    unfold rLoad at h
    cases hr : readR xs s (one ns) (two ns) with
    | error c => rw [hr] at h; cases h; exact read_lay hr
    | ok z =>
      obtain ⟨wd, e, g, s1⟩ := z
      rw [hr] at h
      cases wd with
      | num n => cases h
      | ptr a1 a2 a3 => cases h; unfold Lay; decide +kernel
  · rw [fn_store] at h
    exact write_lay h
  · rw [fn_fetch] at h
    replace h : rFetch xs s (one ns) (two ns) (three ns) = (s', some c) := h
    unfold rFetch at h
    cases hr : readR xs s (two ns) (three ns) with
    | error c => rw [hr] at h; cases h; exact read_lay hr
    | ok z =>
      obtain ⟨wd, e, g, s1⟩ := z
      rw [hr] at h
      cases wd with
      | num n => cases h; unfold Lay; decide +kernel
      | ptr a1 a2 a3 => cases h
  · rw [fn_keep] at h
    replace h : rKeep xs s (one ns) (two ns) (three ns) = (s', some c) := h
    unfold rKeep at h
    cases e : s.ptr (one ns) with
    | none => rw [e] at h; cases h; unfold Lay; decide +kernel
    | some z =>
      obtain ⟨r1, g1, pl⟩ := z
      rw [e] at h
      exact write_lay h
  · rw [fn_aim] at h
    replace h : rAim s (one ns) (two ns) (three ns) = (s', some c) := h
    unfold rAim at h
    split at h
    · cases h; unfold Lay; decide +kernel
    · cases h
  · rw [fn_move] at h
    replace h : rMove s (one ns) (two ns) (three ns) = (s', some c) := h
    unfold rMove at h
    cases e : s.ptr (two ns) with
    | none => rw [e] at h; cases h; unfold Lay; decide +kernel
    | some z =>
      obtain ⟨r1, g1, pl⟩ := z
      rw [e] at h
      dsimp only at h
      split at h
      · cases h; unfold Lay; decide +kernel
      · cases h
  · rw [fn_zero] at h
    replace h : rZero s (one ns) = (s', some c) := h
    unfold rZero at h
    cases e : s.wh with
    | none => rw [e] at h; cases h; unfold Lay; decide +kernel
    | some z =>
      obtain ⟨g1, pl⟩ := z
      rw [e] at h
      dsimp only at h
      split at h <;> cases h
  · rw [fn_go] at h
    replace h : rGo s (one ns) = (s', some c) := h
    unfold rGo at h
    cases e : s.wh with
    | none => rw [e] at h; cases h; unfold Lay; decide +kernel
    | some z =>
      obtain ⟨g1, pl⟩ := z
      rw [e] at h
      cases h
  · rw [fn_call] at h
    replace h : rCall xs s (one ns) = (s', some c) := h
    unfold rCall at h
    cases e : s.ptr (one ns) with
    | none => rw [e] at h; cases h; unfold Lay; decide +kernel
    | some z =>
      obtain ⟨r1, g1, pl⟩ := z
      rw [e] at h
      dsimp only at h
      cases e2 : enteredR (sgAt xs g1) pl (mx s.ring r1) with
      | error c => rw [e2] at h; cases h; exact ent_lay e2
      | ok e3 =>
        rw [e2] at h
        dsimp only at h
        split at h
        · cases h; unfold Lay; decide +kernel
        · cases h
  · rw [fn_return] at h
    replace h : rRet s = (s', some c) := h
    unfold rRet at h
    cases e : s.wh with
    | none => rw [e] at h; cases h; unfold Lay; decide +kernel
    | some z =>
      obtain ⟨g1, pl⟩ := z
      rw [e] at h
      dsimp only at h
      cases e2 : s.ca.getLast? with
      | none => rw [e2] at h; cases h; unfold Lay; decide +kernel
      | some c =>
        obtain ⟨r, w⟩ := c
        rw [e2] at h
        cases h
theorem go_lay {xs : List Sg} {b : Int} (hs : ∀ x ∈ xs, SgForm x ∧ sgFits x b xs.length = true) : ∀ (n : Nat) (s s' : Rn) (c : Str), WF xs s → s.to.length + n ≤ 1999 → s.st.length + n ≤ 900 → goR xs b n s = (s', some c) → Lay c
  | 0, s, s', c, wf, h1, h2, h => by
    unfold goR at h
    cases e : s.wh with
    | none => rw [e] at h; cases h
    | some z =>
      obtain ⟨g, p⟩ := z
      rw [e] at h
      dsimp only at h
      split at h <;> cases h <;> (unfold Lay; decide +kernel)
  | n + 1, s, s', c, wf, h1, h2, h => by
    unfold goR at h
    cases e : s.wh with
    | none => rw [e] at h; cases h
    | some z =>
      obtain ⟨g, p⟩ := z
      obtain ⟨g0, gN⟩ := wf.wh g p e
      rw [e] at h
      dsimp only at h
      by_cases hin : 0 ≤ p ∧ p < ((sgAt xs g).rs.length : Int)
      · rw [if_pos hin] at h
        obtain ⟨o1, o2⟩ := row_in hs g0 gN hin
        have wf6 := wf_step wf e (by omega)
        cases e7 : fnOf (rowAt xs g p).op xs b (s.stepTo g p) (rowAt xs g p).ns with
        | mk s7 o7 =>
          rw [e7] at h
          cases o7 with
          | some c => cases h; exact flt_lay o1 e7
          | none =>
            have G := wf_keep wf6 (show s.to.length ≤ 1999 by omega) o1 o2 e7
            refine go_lay hs n s7 s' c G.wf ?_ ?_ h
            · have := G.to
              have e8 : (s.stepTo g p).to.length = s.to.length := rfl
              omega
            · rw [G.st]
              show (s.st ++ [_]).length + n ≤ 900
              rw [List.length_append]
              show s.st.length + 1 + n ≤ 900
              omega
      · rw [if_neg hin] at h
        cases h
        unfold Lay; decide +kernel
theorem deed_lay {xs : List Sg} {b : Int} {sd : Sd} {op : Str} {ns : List Int} {n : Nat} (hs : ∀ x ∈ xs, SgForm x ∧ sgFits x b xs.length = true) (wf : WF xs (initR sd)) (ho : op ∈ actOps) (hk : okOf op xs ns) (hn : n ≤ 800) : (toldD (deedR xs b n (initR sd) op ns).2).canLay0 = true := by
  have hL : ∀ c, Lay c → (toldD (some c)).canLay0 = true := fun c h => by
    show (PyData.canLay0 (.str "fault") && (PyData.canLay0 (.str c) && true)) = true
    rw [show PyData.canLay0 (.str c) = true from h]
    decide +kernel
  have hD : (toldD none).canLay0 = true := by
    show (PyData.canLay0 (.str "done") && true) = true
    decide +kernel
  unfold deedR
  cases e : fnOf op xs b (initR sd) ns with
  | mk s1 o =>
    cases o with
    | some c => exact hL c (flt_lay ho e)
    | none =>
      dsimp only
      have G := wf_keep wf (Nat.zero_le _) ho hk e
      have e1 : (initR sd).to.length = 0 := rfl
      have e2 : s1.st.length = 0 := by rw [G.st]; rfl
      have g1 := G.to
      cases eg : goR xs b n s1 with
      | mk s2 o2 =>
        cases o2 with
        | none => exact hD
        | some c => exact hL c (go_lay hs n s1 s2 c G.wf (by omega) (by omega) eg)
end
open PySem PySem.Spec L2
section
variable {P : Program} {w : World} {K : PySem.W.Frag} {mg : Str → Option Value} {base : Heap}
theorem rd_tif {tc : TT} {ta tb : TE} {σ : L2.St} {H : Hp} {Q : VK} (h : tc σ H fun c H1 => if c = true then ta σ H1 Q else tb σ H1 Q) : tIf tc ta tb σ H Q := h
end
open PySem PySem.Spec L2
section
variable {P : Program} {w : World} {K : PySem.W.Frag} {mg : Str → Option Value} {base : Heap}
theorem rd_izipA {ta : TA} {σ : L2.St} {H : Hp} {R : It → Hp → Prop} (h : ta σ H fun vs H1 => ∃ a b xs ys, vs = [.ref a, .ref b] ∧ ((SqL K H1 a xs ∧ SqL K H1 b ys ∧ R (Itz K a b) H1) ∨ (SqT K H1 a xs ∧ SqT K H1 b ys ∧ R (RZ.ItzT K a b) H1))) : RZ.iZipA K ta σ H R := h
theorem walk_zipT {a b : Addr} {xs ys : List V} {n : Nat} (hn : n = min xs.length ys.length) : Walk (RZ.ItzT K a b) n (fun H => SqT K H a xs ∧ SqT K H b ys) (YPair (fun i => xs[i]?) (fun i => ys[i]?)) := by
  subst hn
  refine ⟨fun i _ hi q => ?_, fun _ q => ⟨xs, ys, q.1, q.2, by omega⟩, fun i H v H' _ q y => ?_⟩
  · have h1 : i < xs.length := by omega
    have h2 : i < ys.length := by omega
    exact ⟨xs, ys, xs[i], ys[i], q.1, q.2, by simp [h1], by simp [h2]⟩
  · obtain ⟨T, x, z, h1, h2, h3, h4, h5⟩ := y
    exact ⟨T, x, z, h1, h2, h3, h4 xs q.1, h5 ys q.2⟩
def seenW1 (xs : List Sg) (r : Int) (me : List (List Wd)) (i : Nat) : List Wd := if mRead (xs.getD i dSg) r = true then me.getD i [] else []
def seenL (xs : List Sg) (sd : Sd) : List (List Wd) := (List.range xs.length).map (seenW1 xs sd.ring sd.me)
def seenD (xs : List Sg) (sd : Sd) : PyData := .tuple [.int sd.a, .tuple (sd.pt.map ptD), memD (seenL xs sd)]
def spSeen (C : Addr) : Sp := fun vs H Q _ => ∃ (x : Addr) (us : List V) (xs : List Sg) (b : Int) (v : V) (sd : Sd), vs = [.ref x, v] ∧ Mch C H x us xs b ∧ Rp H v sd.d ∧ sd.me.length = xs.length ∧ ∀ (u : V) (H' : Hp), Rp H' u (seenD xs sd) → Same H H' → Q u H'
theorem ok_seen {f C : Addr} {fd : FuncData} (B : BT mg) (T : MC K mg C) (F : Fun K "seen" "seen" s_seen f fd) (hm : mg "seen" = some (.ref f)) (C_may_read : Cal P w K mg base "may_read" 1 ["segment", "ring"] (spMay mRead)) :
    FnOk P w K mg base CX0 2 f fd ["machine", "stand"] (spSeen C) := by
  refine F.ok sc_seen (fun vs H Q E h => ?_) (fun cdv A outer s H vs Q E hr h => ?_)
  · obtain ⟨x, us, xs, b, v, sd, rfl, _⟩ := h
    rfl
  · obtain ⟨x, us, xs, b, v, ⟨ring, a, pt, me⟩, rfl, M, rv, lm, k⟩ := h
    refine ⟨_, (pss_cons (ps_asg (pv 1) (pg_tup (by rfl) (pgs_cons (pg_name (i := 2) sc_seen.nd rfl (Or.inr rfl)) (pgs_cons (pg_name (i := 3) sc_seen.nd rfl (Or.inl rfl)) (pgs_cons (pg_name (i := 4) sc_seen.nd rfl (Or.inl rfl)) (pgs_cons (pg_name (i := 5) sc_seen.nd rfl (Or.inl rfl)) pgs_nil))))))
 (pss_cons (ps_setLc (i := 6) (own := [("segment", 7), ("part", 8)]) (g := gTup K 2 (gCons (gName 7) (gCons (gName 8) (gNil)))) (tt := tYes) rfl sc_seen.nd rfl rfl (sw_true rfl rfl rfl (by decide +kernel)) (RZ.pi_zipA rfl B.g_zip (pa_cons (pe_fldK (K := K) (pv 0) rfl) (pa_cons (pv 5) pa_nil))) (blkOk_by (own := [("segment", 7), ("part", 8)]) (N := ["machine", "stand", "ring", "a", "pointers", "memory", "words", "segment", "part"]) (sc := defScope s_seen) (by decide +kernel)) (fun _ _ _ _ _ => (pg_tup (by rfl) (pgs_cons (pg_name (i := 7) sc_seen.nd rfl (by first | exact Or.inl rfl | exact Or.inr rfl)) (pgs_cons (pg_name (i := 8) sc_seen.nd rfl (by first | exact Or.inl rfl | exact Or.inr rfl)) pgs_nil)))) (fun _ _ _ _ _ => pts_nil) (fun _ _ _ _ _ => (pe_ifExp (pt_val (pe_cal C_may_read (hr.mono (by omega)) rfl (pa_cons (pv 7) (pa_cons (pv 2) pa_nil)))) (pv 8) (pe_tup pa_nil))))
 (pss_one (ps_ret (pe_tup (pa_cons (pv 3) (pa_cons (pv 4) (pa_cons (pe_callTy (cr_tupOf (K := K)) rfl B.g_tuple (by decide +kernel) (pa_cons (pv 6) pa_nil)) pa_nil)))))))), ?_⟩
    dsimp only at lm
    obtain ⟨dx, q, hx, hq⟩ := id M.at_
    obtain ⟨q1, v1, rfl, hq1, ha1⟩ := rv.tup_inv
    obtain ⟨x0, xr, rfl, h0, ha1⟩ := ha1.cons_inv
    obtain ⟨x1, xr, rfl, h1, ha1⟩ := ha1.cons_inv
    obtain ⟨x2, xr, rfl, h2, ha1⟩ := ha1.cons_inv
    obtain ⟨x3, xr, rfl, h3, ha1⟩ := ha1.cons_inv
    have e5 := ha1.nil_inv; subst e5
    have e0 := h0.int_inv; subst e0
    obtain ⟨qm, vm, rfl, hqm, ram⟩ := id h3.tup_inv
    dsimp only at ram
    have lvm : vm.length = me.length := by rw [ram.length, List.length_map]
    have lus : us.length = xs.length := by rw [M.rp.length, List.length_map]
    have l8 := M.l8
    walk_at "rds"
    refine rd_izipA ?_
    walk_at "rd"
    refine ⟨x, C, dx, _, _, rfl, hx, T.cl, T.nS, mFlds_s q b, ?_⟩
    walk_at "rd"
    refine ⟨q, qm, us, vm, rfl, .inr ⟨SqT.of hq, SqT.of hqm, fun D hD => ?_⟩⟩
    refine lc_it (walk_zipT (xs := us) (ys := vm) (n := xs.length) (by omega)) (CompR D H (List.range xs.length) (fun i => .tuple ((seenW1 xs ring me i).map Wd.d))) (CompR.start hD) (fun i H' _ p => by obtain ⟨_, _, _, p⟩ := p; exact ⟨SqT.of (p _ _ hq), SqT.of (p _ _ hqm)⟩) ?_ ?_
    · rintro i y H2 H3 hi pc ⟨T', ea, eb, rfl, hT', rfl, hea, heb⟩
      obtain ⟨_, _, _, s2⟩ := id pc
      have s3 := s2.trans (same_upd (o := .tup [ea, eb]) hT')
      obtain ⟨d, hd, ry⟩ := M.rp.get hea
      rw [List.getElem?_map, List.getElem?_eq_getElem hi] at hd
      cases hd
      obtain ⟨d, hd, rw'⟩ := ram.get heb
      rw [List.getElem?_map, List.getElem?_eq_getElem (show i < me.length by omega)] at hd
      cases hd
      have ew : seenW1 xs ring me i = if mRead xs[i] ring = true then me[i]'(by omega) else [] := by
        unfold seenW1
        rw [List.getD_eq_getElem?_getD, List.getD_eq_getElem?_getD, List.getElem?_eq_getElem hi, List.getElem?_eq_getElem (show i < me.length by omega)]
        rfl
      have hT3 : upd H2 T' (.tup [ea, eb]) T' = some (.tup [ea, eb]) := upd_same
      have sT := same_upd (o := .tup [ea, eb]) hT'
      generalize upd H2 T' (.tup [ea, eb]) = H4 at s3 hT3 sT
      walk_at "rd"
      refine ⟨rfl, ?_⟩
      walk_at "rd"
      refine rd_tif ?_
      walk_at "rd"
      refine ⟨ea, xs[i], ring, rfl, ry.keep (Tk.of s3), fun H5 s5 => ?_⟩
      walk_at "rd"
      refine rd_ifb (fun hb => ?_) (fun hb => ?_)
      · walk_at "rd"
        refine pc.step hD (by omega) (b := i) (by rw [List.getElem?_range hi]) (sT.trans s5) ?_
        rw [ew, if_pos hb]
        exact (rw'.keep (Tk.of s3)).keep (Tk.of s5)
      · walk_at "rd"
        intro p0 hp0
        refine pc.step hD (by omega) (b := i) (by rw [List.getElem?_range hi]) ((sT.trans s5).trans (same_upd hp0)) ?_
        rw [ew, if_neg (by rw [hb]; exact fun z => nomatch z)]
        exact .tup upd_same .nil
    intro H2 pc
    obtain ⟨vs, hvs, rvs, s2⟩ := pc.end (by rw [List.length_range])
    walk_at "rd"
    refine ⟨D, vs, rfl, .inl ⟨SqL.of hvs, fun pm hpm => ?_⟩⟩
    have s3 := s2.trans (same_upd (o := .tup vs) hpm)
    have rm := rvs.keep (Tk.new (o := .tup vs) hpm)
    walk_at "rd"
    intro p4 hp4
    have s4 := same_upd (o := .tup [x1, x2, .ref pm]) hp4
    refine k _ _ (.tup upd_same (.cons ((h1.keep (Tk.of s3)).keep (Tk.of s4)) (.cons ((h2.keep (Tk.of s3)).keep (Tk.of s4)) (.cons (.tup (s4 _ _ upd_same) ?_) .nil)))) (s3.trans s4)
    unfold seenL
    rw [List.map_map]
    exact rm.keep (Tk.of s4)
end
open PySem PySem.Spec L2
section
variable {P : Program} {w : World} {K : PySem.W.Frag} {mg : Str → Option Value} {base : Heap}
abbrev Pr := Sd × Sd
def Pr.d (p : Pr) : PyData := .tuple [p.1.d, p.2.d]
def Pr.k (p : Pr) : NestedKey := .tup [p.1.k, p.2.k]
theorem Pr.k_d (p : Pr) : (Pr.k p).data = Pr.d p := by
  show PyData.tuple [p.1.k.data, p.2.k.data] = _
  rw [Sd.k_d, Sd.k_d]
  rfl
theorem Sd.k_depth4 (s : Sd) : s.k.depth ≤ 4 := by
  have h1 : ∀ x, (wdK x).depth ≤ 1 := fun x => by cases x <;> exact (by decide : (1 : Nat) ≤ 1)
  have h2 : ∀ x, (ptK x).depth ≤ 1 := fun x => by
    match x with
    | none => exact Nat.zero_le _
    | some (_, _, _) => exact Nat.le_refl _
  have h3 : ∀ x, (wsK x).depth ≤ 2 := fun x => Nat.succ_le_succ (depths_map wdK 1 h1 x)
  have a := depths_map ptK 1 h2 s.pt
  have b := depths_map wsK 2 h3 s.me
  show max 0 (max 0 (max (NestedKey.depthAll (s.pt.map ptK) + 1) (max (NestedKey.depthAll (s.me.map wsK) + 1) 0))) + 1 ≤ 4
  omega
theorem Pr.k_depth (p : Pr) : (Pr.k p).depth ≤ 8 := by
  have h1 := p.1.k_depth4
  have h2 := p.2.k_depth4
  show max p.1.k.depth (max p.2.k.depth 0) + 1 ≤ 8
  omega
theorem Pr.k_inj {p q : Pr} (h : Pr.k p = Pr.k q) : p = q := by
  unfold Pr.k at h
  simp only [NestedKey.tup.injEq, List.cons.injEq, and_true] at h
  obtain ⟨a, b⟩ := p
  obtain ⟨c, d⟩ := q
  have h1 : a = c := Sd.k_inj h.1
  have h2 : b = d := Sd.k_inj h.2
  rw [h1, h2]
theorem Pr.eqv (p q : Pr) : PyData.eqv (Pr.d p) (Pr.d q) = decide (Pr.k p = Pr.k q) := by
  rw [← Pr.k_d, ← Pr.k_d, nk_eqv, NestedKey.decide_eq]
abbrev LnP := List (Pr × List Int)
def putP (lc : Int) (L : LnP) (p : Pr) (way : List Int) : Option LnP := if Pr.k p ∈ L.map (fun e => Pr.k e.1) then some L else if (L.length : Int) < lc then some (L ++ [(p, way)]) else none
inductive PR where
  | many (L : LnP)
  | part (L : LnP) (way : List Int)
  | run (L : LnP)
def rowP (f : Nat → Pr) (pt : Nat → Bool) (lc : Int) (ways : List Int) : List Nat → LnP → PR
  | [], L => .run L
  | j :: js, L => if pt j = true then .part L (ways ++ [(j : Int)]) else match putP lc L (f j) (ways ++ [(j : Int)]) with
    | none => .many L
    | some L' => rowP f pt lc ways js L'
def bfsP (f : Pr → Nat → Pr) (pt : Pr → Nat → Bool) (lc : Int) (m : Nat) : Nat → Nat → LnP → PR
  | 0, _, L => .run L
  | n + 1, tk, L => match L[tk]? with
    | none => .run L
    | some e => match rowP (f e.1) (pt e.1) lc e.2 (List.range m) L with
      | .run L' => bfsP f pt lc m n (tk + 1) L'
      | .many L' => .many L'
      | .part L' w => .part L' w
theorem bfsP_at {f : Pr → Nat → Pr} {pt : Pr → Nat → Bool} {lc : Int} {m n tk : Nat} {L : LnP} {e : Pr × List Int} (he : L[tk]? = some e) : bfsP f pt lc m (n + 1) tk L = match rowP (f e.1) (pt e.1) lc e.2 (List.range m) L with
      | .run L' => bfsP f pt lc m n (tk + 1) L'
      | .many L' => .many L'
      | .part L' w => .part L' w := by
  show (match L[tk]? with | none => PR.run L | some e => _) = _
  rw [he]
theorem bfsP_end {f : Pr → Nat → Pr} {pt : Pr → Nat → Bool} {lc : Int} {m n tk : Nat} {L : LnP} (he : L[tk]? = none) : bfsP f pt lc m n tk L = .run L := by
  cases n with
  | zero => rfl
  | succ n =>
    show (match L[tk]? with | none => PR.run L | some e => _) = _
    rw [he]
theorem rowP_at {f : Nat → Pr} {pt : Nat → Bool} {lc : Int} {ways : List Int} {m j : Nat} {L : LnP} (hj : j < m) : rowP f pt lc ways ((List.range m).drop j) L = if pt j = true then .part L (ways ++ [(j : Int)]) else match putP lc L (f j) (ways ++ [(j : Int)]) with
    | none => .many L
    | some L' => rowP f pt lc ways ((List.range m).drop (j + 1)) L' := by
  rw [List.drop_eq_getElem_cons (by rw [List.length_range]; exact hj), List.getElem_range]
  rfl
def bfsP0 (f : Pr → Nat → Pr) (pt : Pr → Nat → Bool) (see : Pr → Bool) (lc : Int) (m : Nat) (p : Pr) : PR := if see p = true then bfsP f pt lc m 901 0 [(p, [])] else .part [(p, [])] []
/-- the things and ways of a Finds are those of a line of pairs -/
def TLP (ts : List Th) (L : LnP) : Prop := ts.map (fun t => (t.k, t.ns)) = L.map fun e => (Pr.k e.1, e.2)
theorem TLP.len {ts : List Th} {L : LnP} (h : TLP ts L) : ts.length = L.length := by
  have := congrArg List.length h
  simpa using this
theorem TLP.keys {ts : List Th} {L : LnP} (h : TLP ts L) : ts.map Th.k = L.map fun e => Pr.k e.1 := by
  have := congrArg (List.map Prod.fst) h
  rw [List.map_map, List.map_map] at this
  exact this
theorem TLP.get {ts : List Th} {L : LnP} (h : TLP ts L) {i : Nat} {e : Pr × List Int} (he : L[i]? = some e) : ∃ t, ts[i]? = some t ∧ t.k = Pr.k e.1 ∧ t.ns = e.2 := by
  have h1 : (ts.map fun t => (t.k, t.ns))[i]? = some (Pr.k e.1, e.2) := by rw [h, List.getElem?_map, he]; rfl
  rw [List.getElem?_map] at h1
  obtain ⟨t, ht, e1⟩ := Option.map_eq_some_iff.mp h1
  injection e1 with a b
  exact ⟨t, ht, a, b⟩
theorem TLP.snoc {ts : List Th} {L : LnP} (h : TLP ts L) {k : NestedKey} {q wl : Addr} {ns : List Int} {p : Pr} (hk : k = Pr.k p) : TLP (ts ++ [⟨k, q, wl, ns⟩]) (L ++ [(p, ns)]) := by
  unfold TLP at h ⊢
  rw [List.map_append, List.map_append, h, hk]
  rfl
theorem TLP.rp {H : Hp} : ∀ {ts : List Th} {L : LnP}, TLP ts L → (∀ t ∈ ts, Rp H (.ref t.q) t.k.data ∧ t.k.depth ≤ 8) → RpAll H (ts.map fun t => V.ref t.q) (L.map fun e => Pr.d e.1)
  | [], [], _, _ => .nil
  | t :: ts, e :: L, h, ks => by
    unfold TLP at h
    rw [List.map_cons, List.map_cons] at h
    injection h with h1 h2
    injection h1 with h3 h4
    refine .cons ?_ (TLP.rp h2 fun t ht => ks t (List.mem_cons_of_mem _ ht))
    have := (ks t List.mem_cons_self).1
    rw [h3, Pr.k_d] at this
    exact this
  | [], _ :: _, h, _ => by simp [TLP] at h
  | _ :: _, [], h, _ => by simp [TLP] at h
/-- two lists of segments alike but for what their words are -/
def sgB (x : Sg) : Sg := { x with ws := List.replicate x.ws.length (.num 0) }
def Twins (xs ys : List Sg) : Prop := xs.map sgB = ys.map sgB
theorem Twins.len {xs ys : List Sg} (h : Twins xs ys) : xs.length = ys.length := by
  have := congrArg List.length h
  simpa using this
theorem Twins.symm {xs ys : List Sg} (h : Twins xs ys) : Twins ys xs := Eq.symm h
abbrev GP (xs ys : List Sg) (b : Int) (p : Pr) : Prop := GW xs b p.1 ∧ GW ys b p.2
def stepP (xs ys : List Sg) (b : Int) (rs : List Rw) (p : Pr) (j : Nat) : Pr := (stepD xs b rs p.1 j, stepD ys b rs p.2 j)
def tellD (xs : List Sg) (b : Int) (rs : List Rw) (s : Sd) (j : Nat) : PyData := toldD (deedR xs b 100 (initR s) (rs.getD j ⟨"return", []⟩).op (rs.getD j ⟨"return", []⟩).ns).2
def seeP (xs ys : List Sg) (p : Pr) : Bool := PyData.eqv (seenD xs p.1) (seenD ys p.2)
def partP (xs ys : List Sg) (b : Int) (rs : List Rw) (p : Pr) (j : Nat) : Bool := !PyData.eqv (tellD xs b rs p.1 j) (tellD ys b rs p.2 j) || !seeP xs ys (stepP xs ys b rs p j)
theorem stepD_good {xs : List Sg} {b : Int} {rs : List Rw} {s : Sd} {j : Nat} (b2 : 2 ≤ b) (hs : ∀ x ∈ xs, SgForm x ∧ sgFits x b xs.length = true) (hrs : ∀ r ∈ rs, RwForm r ∧ rowFits r (xs.length : Int) = true) (hj : j < rs.length) (hg : GW xs b s) : GW xs b (stepD xs b rs s j) := by
  obtain ⟨r, hr1⟩ : ∃ r, rs[j]? = some r := ⟨_, List.getElem?_eq_getElem hj⟩
  obtain ⟨rf, rk⟩ := hrs r (List.mem_of_getElem? hr1)
  have estep : stepD xs b rs s j = (deedR xs b 100 (initR s) r.op r.ns).1.sd s.ring := by
    unfold stepD
    rw [List.getD_eq_getElem?_getD, hr1]
    rfl
  obtain ⟨op, ns⟩ := r
  obtain ⟨ho, hk⟩ := row_okR rf rk
  rw [estep]
  exact ⟨deed_good (b := b) (n := 100) hs hg.1 ho hk (by decide) s.ring, (deed18 (n := 100) b2 hs hg.1 hg.2 ho hk (by decide)).1⟩
/-- a deed of a menu, done -/
theorem use_doneT {C CR CF x : Addr} {H : Hp} {Q : VK} {E : XK} {us ms : List V} {xs : List Sg} {b : Int} {rs : List Rw} {s : Sd} {v u : V} {j : Nat} (M : Mch C H x us xs b) (rv : Rp H v s.d) (gs : GW xs b s) (rms : RpAll H ms (rs.map Rw.d)) (hrs : ∀ r ∈ rs, RwForm r ∧ rowFits r (xs.length : Int) = true) (hj : j < rs.length) (hu : ms[j]? = some u)
    (k : ∀ (qz : Addr) (z1 z2 : V) (H' : Hp), Same H H' → H' qz = some (.tup [z1, z2]) → Rp H' z1 (stepD xs b rs s j).d → Rp H' z2 (tellD xs b rs s j) → (tellD xs b rs s j).canLay0 = true → GW xs b (stepD xs b rs s j) → Q (.ref qz) H') : spDone C CR CF actOps [.ref x, v, u, .int 100] H Q E := by
  obtain ⟨r, hr1⟩ : ∃ r, rs[j]? = some r := ⟨_, List.getElem?_eq_getElem hj⟩
  obtain ⟨d, hd, ru⟩ := rms.get hu
  rw [List.getElem?_map, hr1] at hd
  cases hd
  have hgood := stepD_good M.b2 M.ok hrs hj gs
  obtain ⟨rf, rk⟩ := hrs r (List.mem_of_getElem? hr1)
  have egd : rs.getD j ⟨"return", []⟩ = r := by rw [List.getD_eq_getElem?_getD, hr1]; rfl
  have estep : stepD xs b rs s j = (deedR xs b 100 (initR s) r.op r.ns).1.sd s.ring := by
    unfold stepD
    rw [egd]
  have etell : tellD xs b rs s j = toldD (deedR xs b 100 (initR s) r.op r.ns).2 := by
    unfold tellD
    rw [egd]
  obtain ⟨op, ns⟩ := r
  obtain ⟨ho, hk⟩ := row_okR rf rk
  have wfn := deed_good (b := b) (n := 100) M.ok gs.1 ho hk (by decide) s.ring
  have lay := deed_lay (n := 100) M.ok gs.1 ho hk (by decide)
  refine ⟨x, us, xs, b, v, u, s, op, ns, 100, rfl, M, rv, ru, gs.1, ho, rf, rk, on_pre (n := 100) gs.1 ho hk (by decide), ?_, fun zz H' rzz sh => ?_⟩
  · have h1 : (deedR xs b 100 (initR s) op ns).1.me.length = xs.length := wfn.me
    have := M.l8
    show (deedR xs b 100 (initR s) op ns).1.me.length ≤ 900
    omega
  obtain ⟨qz, vz, rfl, hqz, haz⟩ := rzz.tup_inv
  obtain ⟨z1, zr, rfl, rz1, haz⟩ := haz.cons_inv
  obtain ⟨z2', zr, rfl, rz2, haz⟩ := haz.cons_inv
  have e3 := haz.nil_inv; subst e3
  exact k qz z1 z2' H' sh hqz (by rw [estep]; exact rz1) (by rw [etell]; exact rz2) (by rw [etell]; exact lay) hgood
end
open PySem PySem.Spec L2
section
variable {P : Program} {w : World} {K : PySem.W.Frag} {mg : Str → Option Value} {base : Heap}
theorem big_div {i m : Int} (h0 : 0 < m) (h1 : m ≤ 1000000000000000000000000000000000000000000000000000000000000) : CDivW i m := wide_div (b := 200) h0 (Nat.lt_of_le_of_lt (show m.natAbs ≤ 1000000000000000000000000000000000000000000000000000000000000 by omega) (by decide +kernel)) (by decide) (by decide)
theorem mod_nn {a b : Int} (h : 0 < b) : 0 ≤ a % b ∧ a % b < b := ⟨Int.emod_nonneg _ (by omega), Int.emod_lt_of_pos _ h⟩
def spBag (K : PySem.W.Frag) : Sp := fun vs H Q _ => ∃ (a : Addr) (ns : List Int), vs = [.ref a] ∧ SqL K H a (ns.map V.int) ∧ ns.length ≤ 63 ∧ ∀ (t g : Addr) (H' : Hp), Same H H' → H t = none → H g = none → Deck H' t g 0 → Q (.ref t) H'
theorem ok_bag {f : Addr} {fd : FuncData} (B : BT mg) (F : Fun K "_law_bag" "_law_bag" s_law_bag f fd) (hm : mg "_law_bag" = some (.ref f)) : Cal P w K mg base "_law_bag" 1 ["script"] (spBag K) := by
  refine ⟨f, fd, hm, F.kp, F.binds (ps := ["script"]) fun _ _ _ _ _ _ us hl => match us, hl with | [_], _ => rfl, ?_⟩
  refine F.ok sc_law_bag (fun vs H Q E h => ?_) (fun cdv A outer s H vs Q E hr h => ?_)
  · obtain ⟨a, ns, rfl, _⟩ := h
    rfl
  · obtain ⟨a, ns, rfl, hS, hl, k⟩ := h
    refine ⟨_, (pss_cons (ps_set (i := 1) sc_law_bag.nd rfl (Or.inl rfl) (pe_lst pa_nil))
 (pss_cons (ps_set (i := 2) sc_law_bag.nd rfl (Or.inl rfl) pe_int)
 (pss_cons (ps_for PassesOwn.never rfl (pi_listK (K := K) (pv 0)) (pg_name (i := 3) sc_law_bag.nd rfl (Or.inl rfl))
 (pss_cons (ps_if (pt_cmpR op_lt (pv 3) pe_int (nomark _)) (pss_one (ps_set (i := 3) sc_law_bag.nd rfl (Or.inl rfl) (pe_op op_sub pe_int (pv 3)))) pss_nil)
 (pss_cons (ps_set (i := 2) sc_law_bag.nd rfl (Or.inl rfl) (pe_op op_mod (pe_op op_add (pe_op op_add (pe_op op_mul (pv 2) pe_int) (pv 3)) pe_int) (pe_op op_sub (pe_powc (v := 2305843009213693952) (by decide +kernel) (by decide +kernel)) pe_int)))
 (pss_one (ps_if (pt_cmpR op_ge (pv 3) (pe_powc (v := 1000000000000000000) (by decide +kernel) (by decide +kernel)) (nomark _)) (pss_one (ps_expr (pe_bm PySem.F.plainAttrs_list PySem.F.slot_list_append PySem.F.type_list_append mt_append (pv 1) (pa_cons (pe_op op_sub (pv 3) (pe_powc (v := 1000000000000000000) (by decide +kernel) (by decide +kernel))) pa_nil)))) pss_nil)))))
 (pss_one (ps_ret (pe_lst (pa_cons (pv 1) (pa_cons (pv 2) (pa_cons pe_int pa_nil))))))))), ?_⟩
    walk_at "rds"
    intro g hg
    walk_at "rd"
    refine ⟨_, rfl, ⟨_, (same_upd hg).seq hS⟩, ?_⟩
    refine for_inv (walk_list (xs := ns.map V.int)) (fun i σ' H' => ∃ (fo : Int) (c1 : Option V) (gs : List Int), σ' = [some (.ref a), some (.ref g), some (.int fo), c1] ∧ 0 ≤ fo ∧ fo < 2305843009213693952 ∧ Same H H' ∧ H' g = some (.lst (gs.map V.int)) ∧ (∀ z ∈ gs, 0 ≤ z) ∧ gs.length ≤ i) ?_ ?_ ?_ ?_
    · exact ⟨_, none, [], rfl, by decide, by decide, same_upd hg, upd_same, fun z hz => (nomatch hz), Nat.le_refl _⟩
    · rintro i σ1 H1 hi ⟨fo, c1, gs, rfl, _, _, s1, _⟩
      exact s1.seq hS
    · rintro B' i x σ1 H1 H2 hi ⟨fo, c1, gs, rfl, f0, f1, s1, hg1, hgs, hgl⟩ ⟨rfl, hx⟩
      rw [List.getElem?_map] at hx
      obtain ⟨z, hz, rfl⟩ := Option.map_eq_some_iff.mp hx
      have hi' : i < 63 := by simp at hi; omega
      refine rd_name ?_
      refine rd_seqJ (fun σ' H' => (∃ z' : Int, σ' = [some (.ref a), some (.ref g), some (.int fo), some (.int z')]) ∧ H' = H2) (fun R hR => ?_) ?_
      · walk_at "rd"
        refine rd_ifd (fun hc => ?_) (fun hc => ?_)
        · walk_at "rd"
          exact hR _ _ ⟨⟨_, rfl⟩, rfl⟩
        · walk_at "rd"
          exact hR _ _ ⟨⟨_, rfl⟩, rfl⟩
      rintro σ2 H3 ⟨⟨z', rfl⟩, rfl⟩
      walk_at "rd"
      have fm := mod_nn (a := fo * 1000003 + z' + 1) (b := 2305843009213693952 - 1) (by decide)
      refine rd_ifd (fun hc => ?_) (fun hc => ?_)
      · walk_at "rd"
        refine rd_append hg1 (by rw [List.length_map]; exact small1000 (by omega)) ?_
        walk_at "rd"
        refine ⟨_, _, gs ++ [_], rfl, fm.1, by omega, fun b o e => ?_, upd_same.trans (by rw [List.map_append]; rfl), ?_, by simp; omega⟩
        · rw [upd_ne (ne_of_none e hg)]
          exact s1 b o e
        · intro y hy
          rcases List.mem_append.mp hy with h | h
          · exact hgs y h
          · rw [List.mem_singleton.mp h]
            omega
      · walk_at "rd"
        exact ⟨_, _, gs, rfl, fm.1, by omega, s1, hg1, hgs, by omega⟩
    · rintro σ1 H1 ⟨fo, c1, gs, rfl, f0, f1, s1, hg1, hgs, _⟩
      walk_at "rd"
      intro t ht
      walk_at "rd"
      exact k t g _ (s1.trans (same_upd ht)) (s1.free ht) hg ⟨Ne.symm (ne_of_none hg1 ht), gs, fo, 0, upd_same, by rw [upd_ne (ne_of_none hg1 ht)]; exact hg1, hgs, f0, f1, by decide, by decide⟩
def spDrawB : Sp := fun vs H Q _ => ∃ (t g : Addr) (n : Nat) (m : Int), vs = [.ref t, .int m] ∧ Deck H t g n ∧ n ≤ 1000000 ∧ 0 < m ∧ m ≤ 1000000000000000000000000000000000000000000000000000000000000 ∧
  ∀ (r : Int) (H' : Hp), 0 ≤ r → r < m → Deck H' t g (n + 1) → Kp t g H H' → Q (.int r) H'
theorem use_drawB {t g : Addr} {n : Nat} {m : Int} {H : Hp} {Q : VK} {E : XK} (T : Deck H t g n) (hn : n ≤ 1000000) (h0 : 0 < m) (h1 : m ≤ 1000000000000000000000000000000000000000000000000000000000000)
    (h : ∀ (r : Int) (H' : Hp), 0 ≤ r → r < m → Deck H' t g (n + 1) → Kp t g H H' → Q (.int r) H') : spDrawB [.ref t, .int m] H Q E := ⟨t, g, n, m, rfl, T, hn, h0, h1, h⟩
theorem ok_drawB {f : Addr} {fd : FuncData} (F : Fun K "_law_draw" "_law_draw" s_law_draw f fd) (hm : mg "_law_draw" = some (.ref f)) : Cal P w K mg base "_law_draw" 1 ["bag", "many"] spDrawB := by
  refine ⟨f, fd, hm, F.kp, F.binds (ps := ["bag", "many"]) fun _ _ _ _ _ _ us hl => match us, hl with | [_, _], _ => rfl, ?_⟩
  refine F.ok sc_law_draw (fun vs H Q E h => ?_) (fun cdv A outer s H vs Q E hr h => ?_)
  · obtain ⟨t, g, n, m, rfl, _⟩ := h
    rfl
  · obtain ⟨t, g, n, m, rfl, T, hn, hm0, hm1, k⟩ := h
    refine ⟨_, (pss_cons (ps_asg (pe_op op_add (pe_ix (r := rIxL K) ix_list (pv 0) pe_int (fun _ _ => rfl)) pe_int) (pg_sub (pv 0) pe_int set_list))
 (pss_cons (ps_set (i := 2) sc_law_draw.nd rfl (Or.inl rfl) (pe_ix (r := rIxL K) ix_list (pv 0) pe_int (fun _ _ => rfl)))
 (pss_cons (ps_while PassesOwn.never (PW.pt (pw_and (pt_cmpR (r := rNeD K) (op_neD hr.units) (pv 2) (pe_lst pa_nil) (nomark _)) (pw_and1 (pt_cmpR op_eq (pe_ix (r := rIxL K) ix_list (pv 2) pe_int (fun _ _ => rfl)) pe_int (nomark _))))) (pss_one (ps_expr (pe_bm PySem.F.plainAttrs_list PySem.F.slot_list_pop PySem.F.type_list_pop mt_popAt (pv 2) (pa_cons pe_int pa_nil)))))
 (pss_cons (ps_if (pt_cmpR (r := rNeD K) (op_neD hr.units) (pv 2) (pe_lst pa_nil) (nomark _)) (pss_cons (ps_set (i := 3) sc_law_draw.nd rfl (Or.inl rfl) (pe_op op_mod (pe_ix (r := rIxL K) ix_list (pv 2) pe_int (fun _ _ => rfl)) (pv 1)))
 (pss_cons (ps_asg (pe_op op_fdivW (pe_ix (r := rIxL K) ix_list (pv 2) pe_int (fun _ _ => rfl)) (pv 1)) (pg_sub (pv 2) pe_int set_list))
 (pss_one (ps_ret (pv 3))))) pss_nil)
 (pss_cons (ps_set (i := 4) sc_law_draw.nd rfl (Or.inl rfl) (pe_op op_mod (pe_op op_add (pe_op op_mul (pe_op op_add (pe_ix (r := rIxL K) ix_list (pv 0) pe_int (fun _ _ => rfl)) pe_int) (pe_op op_pow (pe_op op_add (pe_ix (r := rIxL K) ix_list (pv 0) pe_int (fun _ _ => rfl)) pe_int) pe_int)) (pe_op op_mul pe_int (pe_ix (r := rIxL K) ix_list (pv 0) pe_int (fun _ _ => rfl)))) (pe_op op_sub (pe_powc (v := 2305843009213693952) (by decide +kernel) (by decide +kernel)) pe_int)))
 (pss_one (ps_ret (pe_op op_mod (pe_op op_fdivW (pe_op op_mod (pe_op op_pow (pv 4) pe_int) (pe_op op_add (pe_powc (v := 1000000000000000000) (by decide +kernel) (by decide +kernel)) pe_int)) pe_int) (pv 1))))))))), ?_⟩
    obtain ⟨ne, gs0, fo, c, h1, h2, h3, h4, h5, h6, h7⟩ := id T
    walk_at "rds"
    have T0 : Deck (upd H t (.lst [.ref g, .int fo, .int (c + 1)])) t g (n + 1) := ⟨ne, gs0, fo, c + 1, upd_same, by rw [upd_ne ne.symm]; exact h2, h3, h4, h5, by omega, by omega⟩
    refine while_inv (fun i σ' H' => σ' = [some (.ref t), some (.int m), some (.ref g), none, none] ∧ Deck H' t g (n + 1) ∧ Kp t g H H' ∧ ∃ xs : List V, H' g = some (.lst xs) ∧ xs.length = i) ?_ ?_ ?_
    · obtain ⟨xs, e⟩ := T0.hg
      exact ⟨xs.length, rfl, T0, Kp.t, xs, e, rfl⟩
    · rintro i σ1 H1 ⟨rfl, T1, k1, _⟩
      obtain ⟨ne, gs, fo, c, h1, h2, h3, h4, h5, h6, h7⟩ := id T1
      walk_at "rd"
      intro p hp
      have s1 := same_upd (o := .lst []) hp
      have e1 := s1 _ _ h1
      have e2 := s1 _ _ h2
      refine rd_neD (d := .list (gs.map .int)) (e := .list []) (.lst (SqL.of e2) (RpAll.ints gs).dp) (.lst (SqL.of upd_same) .nil) (shaped_ints gs) rfl ?_
      walk_at "rd"
      cases gs with
      | nil =>
        refine rd_ifbF rfl ?_
        walk_at "rd"
        refine rd_pow ⟨by decide, by decide, by omega⟩ ?_
        walk_at "rd"
        refine rd_pow ⟨by decide, by decide, ?_⟩ ?_
        · have := mod_nn (a := (fo + 40961) * (c + 11) ^ (3 : Int).toNat + 7907 * c) (b := 2305843009213693952 - 1) (by decide)
          omega
        walk_at "rd"
        refine rd_fdivW (wide_div (b := 8) (by decide) (by decide) (by decide) (by decide)) ?_
        walk_at "rd"
        exact k _ _ (mod_nn hm0).1 (mod_nn hm0).2 (T1.same s1) (k1.trans (Kp.of s1))
      | cons z gs =>
        refine rd_ifbT rfl ?_
        replace e2 : upd H1 p (.lst []) g = some (.lst (.int z :: gs.map V.int)) := e2
        walk_at "rd"
        refine rd_fdivW (big_div hm0 hm1) ?_
        walk_at "rd"
        refine rd_setL e2 (j := 0) (by unfold ixN; simp) ?_
        walk_at "rd"
        have hz := h3 z (List.mem_cons_self ..)
        refine k _ _ (mod_nn hm0).1 (mod_nn hm0).2 ⟨ne, (z / m) :: gs, fo, c, by rw [upd_ne ne]; exact e1, upd_same, fun y hy => ?_, h4, h5, h6, h7⟩ ((k1.trans (Kp.of s1)).trans Kp.g)
        rcases List.mem_cons.mp hy with h | h
        · rw [h]
          exact Int.ediv_nonneg hz (by omega)
        · exact h3 y (List.mem_cons_of_mem _ h)
    · rintro B hx i σ1 H1 ⟨rfl, T1, k1, xs, hxs, hi⟩
      obtain ⟨ne, gs, fo, c, h1, h2, h3, h4, h5, h6, h7⟩ := id T1
      have ex : xs = gs.map V.int := by rw [hxs] at h2; injection h2 with z; injection z
      subst ex
      walk_at "rd"
      intro p hp
      have s1 := same_upd (o := .lst []) hp
      have e1 := s1 _ _ h1
      have e2 := s1 _ _ h2
      refine rd_neD (d := .list (gs.map .int)) (e := .list []) (.lst (SqL.of e2) (RpAll.ints gs).dp) (.lst (SqL.of upd_same) .nil) (shaped_ints gs) rfl ?_
      walk_at "rd"
      cases gs with
      | nil =>
        refine rd_ifbF rfl ?_
        walk_at "rd"
        exact hx 0 _ _ ⟨rfl, T1.same s1, k1.trans (Kp.of s1), [], e2, rfl⟩
      | cons z gs =>
        refine rd_ifbT rfl ?_
        replace e2 : upd H1 p (.lst []) g = some (.lst (.int z :: gs.map V.int)) := e2
        walk_at "rd"
        refine rd_ifI (fun ha => ?_) (fun ha => ?_)
        · refine ⟨_, fun σ' H' h => h, ?_⟩
          walk_at "rd"
          refine rd_pop0 e2 ?_
          walk_at "rd"
          refine ⟨gs.length, by simp at hi; omega, rfl, ⟨ne, gs, fo, c, by rw [upd_ne ne]; exact e1, upd_same, fun y hy => h3 y (List.mem_cons_of_mem _ hy), h4, h5, h6, h7⟩, (k1.trans (Kp.of s1)).trans Kp.g, _, upd_same, by simp⟩
        · walk_at "rd"
          exact hx _ _ _ ⟨rfl, T1.same s1, k1.trans (Kp.of s1), _, e2, hi⟩
end
open PySem PySem.Spec L2
open PySem PySem.Spec L2
open PySem PySem.Spec L2
open PySem PySem.Spec L2
section
variable {P : Program} {w : World} {K : PySem.W.Frag} {mg : Str → Option Value} {base : Heap}
theorem upd_ofL {H : Hp} {a : Addr} {o : HO} (_ : H a = none) : upd H a o a = some o := upd_same
end
open PySem PySem.Spec L2
section
variable {P : Program} {w : World} {K : PySem.W.Frag} {mg : Str → Option Value} {base : Heap}
def frD (x : Sg) : PyData := .tuple [.tuple [.int x.r1, .int x.r2, .int x.r3], .str x.ri, .int x.ga, .int x.ws.length, .tuple (x.rs.map Rw.d)]
def frameD (xs : List Sg) (b : Int) : PyData := .tuple [.int b, .list (xs.map frD)]
theorem frD_bare (x : Sg) : frD (sgB x) = frD x := by
  unfold frD sgB
  simp only [List.length_replicate]
theorem Twins.fr {xs ys : List Sg} (h : Twins xs ys) : xs.map frD = ys.map frD := by
  have h1 := congrArg (List.map frD) h
  rw [List.map_map, List.map_map, show frD ∘ sgB = frD from funext frD_bare] at h1
  exact h1
theorem frame_lay {xs : List Sg} {b : Int} (l8 : xs.length ≤ 8) (hs : ∀ x ∈ xs, SgForm x ∧ sgFits x b xs.length = true) : (frameD xs b).canLay0 = true ∧ SeqAt.shaped (frameD xs b) = true := by
  have h3 : ∀ r ∈ rightsL, PyData.canLay0 (.str r) = true := by decide +kernel
  have h2 : PyData.canLayAll0 (xs.map frD) = true := lay_map xs fun x hx => by
    show (PyData.canLayAll0 ([x.r1, x.r2, x.r3].map PyData.int) && (PyData.canLay0 (.str x.ri) && (true && (true && (PyData.canLayAll0 (x.rs.map Rw.d) && true))))) = true
    rw [lay_map [x.r1, x.r2, x.r3] fun _ _ => rfl, h3 _ (ri_mem (sg_parts (hs x hx).2).2.1), lay_map x.rs fun r hr => Rw.lay ((hs x hx).1 r hr)]
    rfl
  have h1 : (frameD xs b).canLay0 = true := by
    show (true && (PyData.canLayAll0 (xs.map frD) && true)) = true
    rw [h2]
    rfl
  have hi : ∀ n, okN 3 (PyData.int n) := fun _ => trivial
  refine ⟨h1, shaped_of (j := 6) h1 ⟨by show 2 ≤ 1000000; decide, fun e he => ?_⟩ (by decide)⟩
  rcases List.mem_cons.mp he with rfl | he
  · trivial
  rw [List.mem_singleton.mp he]
  refine ⟨by rw [List.length_map]; omega, fun e he => ?_⟩
  obtain ⟨x, hx, rfl⟩ := List.mem_map.mp he
  obtain ⟨_, _, _, _, p5, _, _⟩ := sg_parts (hs x hx).2
  refine ⟨by show 5 ≤ 1000000; decide, fun e he => ?_⟩
  rcases List.mem_cons.mp he with rfl | he
  · exact ⟨by show 3 ≤ 1000000; decide, fun e he => by
      rcases List.mem_cons.mp he with rfl | he; exact trivial
      rcases List.mem_cons.mp he with rfl | he; exact trivial
      rw [List.mem_singleton.mp he]; exact trivial⟩
  rcases List.mem_cons.mp he with rfl | he
  · trivial
  rcases List.mem_cons.mp he with rfl | he
  · trivial
  rcases List.mem_cons.mp he with rfl | he
  · trivial
  rw [List.mem_singleton.mp he]
  exact ⟨by rw [List.length_map]; omega, fun e he => by obtain ⟨r, hr, rfl⟩ := List.mem_map.mp he; exact okN_mono (by decide) (Rw.ok ((hs x hx).1 r hr))⟩
theorem seenP_lay {xs : List Sg} {sd : Sd} : (seenD xs sd).canLay0 = true := by
  have h1 : PyData.canLayAll0 (sd.pt.map ptD) = true := lay_map _ fun p _ => by
    cases p with
    | none => rfl
    | some z => obtain ⟨a, b, c⟩ := z; rfl
  have h2 : PyData.canLayAll0 ((seenL xs sd).map fun ws => PyData.tuple (ws.map Wd.d)) = true := lay_map _ fun ws _ => lay_map _ fun x _ => Wd.lay x
  show (true && (PyData.canLayAll0 (sd.pt.map ptD) && (PyData.canLayAll0 ((seenL xs sd).map fun ws => PyData.tuple (ws.map Wd.d)) && true))) = true
  rw [h1, h2]
  rfl
theorem seenP_shaped {xs : List Sg} {b : Int} {sd : Sd} (l8 : xs.length ≤ 8) (g : GW xs b sd) : SeqAt.shaped (seenD xs sd) = true := by
  have ok : okN 5 (Sd.mk sd.ring sd.a sd.pt (seenL xs sd)).d := Sd.ok (by have h1 : sd.pt.length = 4 := g.1.pt4; show sd.pt.length ≤ 1000; omega) (by show (seenL xs sd).length ≤ 1000; unfold seenL; rw [List.length_map, List.length_range]; omega) (fun ws hw => by
    have hw' : ws ∈ seenL xs sd := hw
    unfold seenL at hw'
    obtain ⟨i, hi, rfl⟩ := List.mem_map.mp hw'
    unfold seenW1
    split
    · have hme : sd.me.length = xs.length := g.1.me
      have hi' := List.mem_range.mp hi
      rw [List.getD_eq_getElem?_getD, List.getElem?_eq_getElem (show i < sd.me.length by omega)]
      have := (g.1.mw _ (List.getElem_mem (show i < sd.me.length by omega))).1
      show (sd.me[i]'(by omega)).length ≤ 1000
      omega
    · exact Nat.zero_le _)
  refine shaped_of (j := 5) seenP_lay ⟨by show 3 ≤ 1000000; decide, fun e he => ok.2 e ?_⟩ (by decide)
  exact List.mem_cons_of_mem _ he
def spFrame (C : Addr) : Sp := fun vs H Q _ => ∃ (x : Addr) (us : List V) (xs : List Sg) (b : Int), vs = [.ref x] ∧ Mch C H x us xs b ∧ ∀ (p l : Addr) (fs : List V) (H' : Hp), H' p = some (.tup [.int b, .ref l]) → H' l = some (.lst fs) → RpAll H' fs (xs.map frD) → Same H H' → Q (.ref p) H'
theorem ok_frame {f C : Addr} {fd : FuncData} (B : BT mg) (T : MC K mg C) (F : Fun K "frame" "frame" s_frame f fd) (hm : mg "frame" = some (.ref f)) : Cal P w K mg base "frame" 1 ["machine"] (spFrame C) := by
  refine ⟨f, fd, hm, F.kp, F.binds (ps := ["machine"]) fun _ _ _ _ _ _ us hl => match us, hl with | [_], _ => rfl, ?_⟩
  refine F.ok sc_frame (fun vs H Q E h => ?_) (fun cdv A outer s H vs Q E hr h => ?_)
  · obtain ⟨x, us, xs, b, rfl, _⟩ := h
    rfl
  · obtain ⟨x, us, xs, b, rfl, M, k⟩ := h
    refine ⟨_, (pss_cons (ps_setLc (i := 1) (own := [("brackets", 2), ("rights", 3), ("gates", 4), ("words", 5), ("rows", 6)]) (g := gTup K 5 (gCons (gName 2) (gCons (gName 3) (gCons (gName 4) (gCons (gName 5) (gCons (gName 6) (gNil))))))) (tt := tYes) rfl sc_frame.nd rfl rfl (sw_true rfl rfl rfl (by decide +kernel)) (pi_tupK (K := K) (pe_fldK (K := K) (pv 0) rfl)) (blkOk_by (own := [("brackets", 2), ("rights", 3), ("gates", 4), ("words", 5), ("rows", 6)]) (N := ["machine", "parts", "brackets", "rights", "gates", "words", "rows"]) (sc := defScope s_frame) (by decide +kernel)) (fun _ _ _ _ _ => (pg_tup (by rfl) (pgs_cons (pg_name (i := 2) sc_frame.nd rfl (by first | exact Or.inl rfl | exact Or.inr rfl)) (pgs_cons (pg_name (i := 3) sc_frame.nd rfl (by first | exact Or.inl rfl | exact Or.inr rfl)) (pgs_cons (pg_name (i := 4) sc_frame.nd rfl (by first | exact Or.inl rfl | exact Or.inr rfl)) (pgs_cons (pg_name (i := 5) sc_frame.nd rfl (by first | exact Or.inl rfl | exact Or.inr rfl)) (pgs_cons (pg_name (i := 6) sc_frame.nd rfl (by first | exact Or.inl rfl | exact Or.inr rfl)) pgs_nil))))))) (fun _ _ _ _ _ => pts_nil) (fun _ _ _ _ _ => (pe_tup (pa_cons (pv 2) (pa_cons (pv 3) (pa_cons (pv 4) (pa_cons (pe_callB (cr_lenS (K := K)) rfl B.g_len PySem.boot_len (pa_cons (pv 5) pa_nil)) (pa_cons (pv 6) pa_nil))))))))
 (pss_one (ps_ret (pe_tup (pa_cons (pe_fldK (K := K) (pv 0) rfl) (pa_cons (pv 1) pa_nil)))))), ?_⟩
    obtain ⟨dx, q, hx, hq⟩ := id M.at_
    have lus : us.length = xs.length := by rw [M.rp.length, List.length_map]
    walk_at "rds"
    refine ⟨x, C, dx, _, _, rfl, hx, T.cl, T.nS, mFlds_s q b, ?_⟩
    walk_at "rd"
    refine ⟨q, rfl, ⟨_, SqT.of hq⟩, fun D hD => ?_⟩
    refine lc_it (walk_tup (xs := us)) (CompR D H xs frD) (CompR.start hD) (fun i H' _ p => by obtain ⟨_, _, _, p⟩ := p; exact SqT.of (p _ _ hq)) ?_ ?_
    · rintro i y H2 H3 hi pc ⟨rfl, hy⟩
      obtain ⟨_, _, _, s2⟩ := id pc
      obtain ⟨d, hd, ry⟩ := M.rp.get hy
      rw [List.getElem?_map] at hd
      obtain ⟨z, hz, rfl⟩ := Option.map_eq_some_iff.mp hd
      replace ry := ry.keep (Tk.of s2)
      obtain ⟨p, vs, rfl, hp, ha⟩ := ry.tup_inv
      obtain ⟨x0, xr, rfl, g0, ha⟩ := ha.cons_inv
      obtain ⟨x1, xr, rfl, g1, ha⟩ := ha.cons_inv
      obtain ⟨x2, xr, rfl, g2, ha⟩ := ha.cons_inv
      obtain ⟨x3, xr, rfl, g3, ha⟩ := ha.cons_inv
      obtain ⟨x4, xr, rfl, g4, ha⟩ := ha.cons_inv
      have e5 := ha.nil_inv; subst e5
      obtain ⟨pw, vw, rfl, hpw, haw⟩ := id g3.tup_inv
      have lvw : vw.length = z.ws.length := by rw [haw.length, List.length_map]
      walk_at "rd"
      refine ⟨rfl, ?_⟩
      walk_at "rd"
      refine ⟨pw, vw, rfl, .inr (SqT.of hpw), ?_⟩
      rw [lvw]
      walk_at "rd"
      intro o ho
      have so := same_upd (o := .tup [x0, x1, x2, .int (z.ws.length : Int), x4]) ho
      exact pc.step hD (by have := M.l8; have := (List.getElem?_eq_some_iff.mp hz).1; omega) hz so (.tup (upd_ofL ho) (.cons (g0.keep (Tk.of so)) (.cons (g1.keep (Tk.of so)) (.cons (g2.keep (Tk.of so)) (.cons (.int _) (.cons (g4.keep (Tk.of so)) .nil))))))
    intro H2 pc
    obtain ⟨fs, hfs, rfs, s2⟩ := pc.end lus
    walk_at "rd"
    have hx2 := s2 _ _ hx
    refine ⟨x, C, dx, _, _, rfl, hx2, T.cl, T.nB, mFlds_b q b, ?_⟩
    walk_at "rd"
    intro p hp
    have sp := same_upd (o := .tup [.int b, .ref D]) hp
    exact k p D fs _ upd_same (sp _ _ hfs) (rfs.keep (Tk.of sp)) (s2.trans sp)
def spRefPair (C : Addr) : Sp := fun vs H Q _ => ∃ (x y M : Addr) (u v : V) (us us' ms : List V) (xs ys : List Sg) (b : Int) (s s' : Sd) (rs : List Rw), vs = [.ref x, .ref y, u, v, .ref M] ∧ Mch C H x us xs b ∧ Mch C H y us' ys b ∧ Twins xs ys ∧ Rp H u s.d ∧ Rp H v s'.d ∧ s.ring = s'.ring ∧ H M = some (.lst ms) ∧ RpAll H ms (rs.map Rw.d) ∧ (∀ r ∈ rs, RwForm r ∧ rowFits r (xs.length : Int) = true) ∧ ∀ H', Same H H' → Q .non H'
theorem ok_refPair {f C : Addr} {fd : FuncData} (B : BT mg) (F : Fun K "refuse_pair" "refuse_pair" s_refuse_pair f fd) (hm : mg "refuse_pair" = some (.ref f)) (C_frame : Cal P w K mg base "frame" 1 ["machine"] (spFrame C)) (C_refuse_faulty : Cal P w K mg base "refuse_faulty" 5 ["machine", "deeds"] (spRefuse C)) :
    Cal P w K mg base "refuse_pair" 6 ["one", "other", "stand", "other_stand", "menu"] (spRefPair C) := by
  refine ⟨f, fd, hm, F.kp, F.binds (ps := ["one", "other", "stand", "other_stand", "menu"]) fun _ _ _ _ _ _ us hl => match us, hl with | [_, _, _, _, _], _ => rfl, ?_⟩
  refine F.ok sc_refuse_pair (fun vs H Q E h => ?_) (fun cdv A outer s H vs Q E hr h => ?_)
  · obtain ⟨x, y, M, u, v, us, us', ms, xs, ys, b, s, s', rs, rfl, _⟩ := h
    rfl
  · obtain ⟨x, y, M, u, v, us, us', ms, xs, ys, b, s, s', rs, rfl, Mx, My, tw, ru, rv, er, hM, rms, hrs, k⟩ := h
    refine ⟨_, (pss_cons (ps_if (PW.pt (pw_or (pt_cmpR (r := rNeD K) (op_neD hr.units) (pe_cal C_frame (hr.mono (by omega)) rfl (pa_cons (pv 0) pa_nil)) (pe_cal C_frame (hr.mono (by omega)) rfl (pa_cons (pv 1) pa_nil)) (nomark _)) (pw_or1 (pt_cmpR op_ne (pe_ix (r := rIxT K) ix_tup (pv 2) pe_int (fun _ _ => rfl)) (pe_ix (r := rIxT K) ix_tup (pv 3) pe_int (fun _ _ => rfl)) (nomark _))))) (pss_one ps_never) pss_nil)
 (pss_one (ps_expr (pe_cal C_refuse_faulty (hr.mono (by omega)) rfl (pa_cons (pv 0) (pa_cons (pv 4) pa_nil)))))), ?_⟩
    obtain ⟨qu, vu, rfl, hqu, hu⟩ := ru.tup_inv
    obtain ⟨u0, ur, rfl, r0, hu⟩ := hu.cons_inv
    have e := r0.int_inv; subst e
    obtain ⟨qv, vv, rfl, hqv, hv⟩ := rv.tup_inv
    obtain ⟨v0, vr, rfl, t0, hv⟩ := hv.cons_inv
    have e := t0.int_inv; subst e
    walk_at "rds"
    refine ⟨x, us, xs, b, rfl, Mx, fun p1 l1 f1 H1 hp1 hl1 rf1 s1 => ?_⟩
    walk_at "rd"
    have My1 : Mch C H1 y us' ys b := ⟨My.at_.same s1, My.rp.keep (Tk.of s1), My.l8, My.b2, My.ok⟩
    refine ⟨y, us', ys, b, rfl, My1, fun p2 l2 f2 H2 hp2 hl2 rf2 s2 => ?_⟩
    have efr : frameD ys b = frameD xs b := by unfold frameD; rw [tw.fr]
    obtain ⟨fl, fs⟩ := frame_lay Mx.l8 Mx.ok
    refine rd_neD (d := frameD xs b) (e := frameD ys b) (.tup (SqT.of (s2 _ _ hp1)) (.cons (.int _) (.cons (.lst (SqL.of (s2 _ _ hl1)) (rf1.keep (Tk.of s2)).dp) .nil))) (.tup (SqT.of hp2) (.cons (.int _) (.cons (.lst (SqL.of hl2) rf2.dp) .nil))) fs (by rw [efr]; exact fs) ?_
    rw [efr, SeqAt.eqv_refl _ fl]
    refine ⟨_, rfl, ?_⟩
    have s12 := s1.trans s2
    have hqu2 := s12 _ _ hqu
    have hqv2 := s12 _ _ hqv
    walk_at "rd"
    rw [decide_eq_true (show V.int s.ring = V.int s'.ring by rw [er])]
    walk_at "rd"
    refine ⟨x, M, us, xs, b, ms, rs, rfl, Mx.at_.same s12, by rw [Mx.rp.length, List.length_map], Mx.l8, s12 _ _ hM, rms.keep (Tk.of s12), hrs, fun H3 s3 => ?_⟩
    walk_at "rd"
    exact k H3 (s12.trans s3)
def spSeeAlike (C : Addr) : Sp := fun vs H Q _ => ∃ (x y : Addr) (pq : V) (us us' : List V) (xs ys : List Sg) (b : Int) (p : Pr), vs = [.ref x, .ref y, pq] ∧ Mch C H x us xs b ∧ Mch C H y us' ys b ∧ Rp H pq (Pr.d p) ∧ GP xs ys b p ∧ ∀ H', Same H H' → Q (.bl (seeP xs ys p)) H'
theorem ok_seeAlike {f fS C : Addr} {fd fdS : FuncData} (B : BT mg) (F : Fun K "seen_alike" "seen_alike" s_seen_alike f fd) (hm : mg "seen_alike" = some (.ref f)) (hmS : mg "seen" = some (.ref fS)) (hkS : PySem.W.keepIn K (.ref fS) = true) (bS : Binds K fdS ["machine", "stand"] []) (F_seen : FnOk P w K mg base CX0 2 fS fdS ["machine", "stand"] (spSeen C)) :
    Cal P w K mg base "seen_alike" 3 ["one", "other", "pair"] (spSeeAlike C) := by
  refine ⟨f, fd, hm, F.kp, F.binds (ps := ["one", "other", "pair"]) fun _ _ _ _ _ _ us hl => match us, hl with | [_, _, _], _ => rfl, ?_⟩
  refine F.ok sc_seen_alike (fun vs H Q E h => ?_) (fun cdv A outer s H vs Q E hr h => ?_)
  · obtain ⟨x, y, pq, us, us', xs, ys, b, p, rfl, _⟩ := h
    rfl
  · obtain ⟨x, y, pq, us, us', xs, ys, b, p, rfl, Mx, My, rp, gp, k⟩ := h
    refine ⟨_, (pss_cons (ps_asg (pv 2) (pg_tup (by rfl) (pgs_cons (pg_name (i := 3) sc_seen_alike.nd rfl (Or.inl rfl)) (pgs_cons (pg_name (i := 4) sc_seen_alike.nd rfl (Or.inl rfl)) pgs_nil))))
 (pss_one (ps_ret (pe_cmpR (r := rEqD K) (op_eqD hr.units) (pe_call F_seen (hr.mono (by omega)) rfl hmS hkS bS .nil pass0 (pa_cons (pv 0) (pa_cons (pv 3) pa_nil))) (pe_call F_seen (hr.mono (by omega)) rfl hmS hkS bS .nil pass0 (pa_cons (pv 1) (pa_cons (pv 4) pa_nil))) (nomark _))))), ?_⟩
    obtain ⟨q, vv, rfl, hq, hv⟩ := rp.tup_inv
    obtain ⟨x0, xr, rfl, h0, hv⟩ := hv.cons_inv
    obtain ⟨x1, xr, rfl, h1, hv⟩ := hv.cons_inv
    have e := hv.nil_inv; subst e
    walk_at "rds"
    refine ⟨x, us, xs, b, x0, p.1, rfl, Mx, h0, gp.1.1.me, fun u1 H1 r1 s1 => ?_⟩
    walk_at "rd"
    refine ⟨y, us', ys, b, x1, p.2, rfl, ⟨My.at_.same s1, My.rp.keep (Tk.of s1), My.l8, My.b2, My.ok⟩, h1.keep (Tk.of s1), gp.2.1.me, fun u2 H2 r2 s2 => ?_⟩
    refine rd_eqD (d := seenD xs p.1) (e := seenD ys p.2) (r1.keep (Tk.of s2)).dp r2.dp (seenP_shaped Mx.l8 gp.1) (seenP_shaped My.l8 gp.2) ?_
    exact k H2 (s1.trans s2)
def spBehind (C : Addr) : Sp := fun vs H Q _ => ∃ (x y : Addr) (pq u : V) (us us' ms : List V) (xs ys : List Sg) (b : Int) (p : Pr) (rs : List Rw) (j : Nat), vs = [.ref x, .ref y, pq, u] ∧ Mch C H x us xs b ∧ Mch C H y us' ys b ∧ Twins xs ys ∧ Rp H pq (Pr.d p) ∧ GP xs ys b p ∧ RpAll H ms (rs.map Rw.d) ∧ (∀ r ∈ rs, RwForm r ∧ rowFits r (xs.length : Int) = true) ∧ j < rs.length ∧ ms[j]? = some u ∧
  (partP xs ys b rs p j = true → ∀ H', Same H H' → Q .non H') ∧ (partP xs ys b rs p j = false → ∀ (q : Addr) (H' : Hp), Rp H' (.ref q) (Pr.d (stepP xs ys b rs p j)) → GP xs ys b (stepP xs ys b rs p j) → Same H H' → Q (.ref q) H')
theorem ok_behind {f fD C CR CF : Addr} {fd fdD : FuncData} {dsD : List Value} (B : BT mg) (F : Fun K "pair_behind" "pair_behind" s_pair_behind f fd) (hm : mg "pair_behind" = some (.ref f)) (C_seen_alike : Cal P w K mg base "seen_alike" 3 ["one", "other", "pair"] (spSeeAlike C))
    (hmD : mg "done" = some (.ref fD)) (hkD : PySem.W.keepIn K (.ref fD) = true) (bD : Binds K fdD ["machine", "stand", "deed", "most"] dsD) (vD : Vals [.int 100] dsD) (F_done : FnOk P w K mg base CX0 10 fD fdD ["machine", "stand", "deed", "most"] (spDone C CR CF actOps)) :
    Cal P w K mg base "pair_behind" 11 ["one", "other", "pair", "deed"] (spBehind C) := by
  refine ⟨f, fd, hm, F.kp, F.binds (ps := ["one", "other", "pair", "deed"]) fun _ _ _ _ _ _ us hl => match us, hl with | [_, _, _, _], _ => rfl, ?_⟩
  refine F.ok sc_pair_behind (fun vs H Q E h => ?_) (fun cdv A outer s H vs Q E hr h => ?_)
  · obtain ⟨x, y, pq, u, us, us', ms, xs, ys, b, p, rs, j, rfl, _⟩ := h
    rfl
  · obtain ⟨x, y, pq, u, us, us', ms, xs, ys, b, p, rs, j, rfl, Mx, My, tw, rp, gp, rms, hrs, hj, hu, k1, k2⟩ := h
    refine ⟨_, (pss_cons (ps_asg (pe_call F_done (hr.mono (by omega)) rfl hmD hkD bD vD pass0 (pa_cons (pv 0) (pa_cons (pe_ix (r := rIxT K) ix_tup (pv 2) pe_int (fun _ _ => rfl)) (pa_cons (pv 3) pa_nil)))) (pg_tup (by rfl) (pgs_cons (pg_name (i := 4) sc_pair_behind.nd rfl (Or.inl rfl)) (pgs_cons (pg_name (i := 5) sc_pair_behind.nd rfl (Or.inl rfl)) pgs_nil))))
 (pss_cons (ps_asg (pe_call F_done (hr.mono (by omega)) rfl hmD hkD bD vD pass0 (pa_cons (pv 1) (pa_cons (pe_ix (r := rIxT K) ix_tup (pv 2) pe_int (fun _ _ => rfl)) (pa_cons (pv 3) pa_nil)))) (pg_tup (by rfl) (pgs_cons (pg_name (i := 6) sc_pair_behind.nd rfl (Or.inl rfl)) (pgs_cons (pg_name (i := 7) sc_pair_behind.nd rfl (Or.inl rfl)) pgs_nil))))
 (pss_cons (ps_set (i := 8) sc_pair_behind.nd rfl (Or.inl rfl) (pe_tup (pa_cons (pv 4) (pa_cons (pv 6) pa_nil))))
 (pss_cons (ps_if (PW.pt (pw_or (pt_cmpR (r := rNeD K) (op_neD hr.units) (pv 5) (pv 7) (nomark _)) (pw_or1 (pt_not (pt_val (pe_cal C_seen_alike (hr.mono (by omega)) rfl (pa_cons (pv 0) (pa_cons (pv 1) (pa_cons (pv 8) pa_nil))))))))) (pss_one (ps_ret pe_non)) pss_nil)
 (pss_one (ps_ret (pv 8))))))), ?_⟩
    have hrs' : ∀ r ∈ rs, RwForm r ∧ rowFits r (ys.length : Int) = true := by rw [← tw.len]; exact hrs
    obtain ⟨q, vv, rfl, hq, hv⟩ := rp.tup_inv
    obtain ⟨x0, xr, rfl, h0, hv⟩ := hv.cons_inv
    obtain ⟨x1, xr, rfl, h1, hv⟩ := hv.cons_inv
    have e := hv.nil_inv; subst e
    walk_at "rds"
    refine use_doneT Mx h0 gp.1 rms hrs hj hu fun qz z1 z2 H1 s1 hqz rz1 rz2 lz g1 => ?_
    have hq1 := s1 _ _ hq
    have My1 : Mch C H1 y us' ys b := ⟨My.at_.same s1, My.rp.keep (Tk.of s1), My.l8, My.b2, My.ok⟩
    walk_at "rd"
    refine use_doneT My1 (h1.keep (Tk.of s1)) gp.2 (rms.keep (Tk.of s1)) hrs' hj hu fun qy y1 y2 H2 s2 hqy ry1 ry2 ly g2 => ?_
    have s12 := s1.trans s2
    have rz1' := rz1.keep (Tk.of s2)
    have rz2' := rz2.keep (Tk.of s2)
    walk_at "rd"
    intro o ho
    have so := same_upd (o := .tup [z1, y1]) ho
    have eo := upd_ofL (o := .tup [z1, y1]) ho
    generalize upd H2 o (.tup [z1, y1]) = H3 at so eo
    have s13 := s12.trans so
    have ro : Rp H3 (.ref o) (Pr.d (stepP xs ys b rs p j)) := .tup eo (.cons (rz1'.keep (Tk.of so)) (.cons (ry1.keep (Tk.of so)) .nil))
    have tsh : ∀ {zs : List Sg} {s : Sd}, (tellD zs b rs s j).canLay0 = true → SeqAt.shaped (tellD zs b rs s j) = true := fun {zs s} h => by
      refine shaped_of (j := 2) h ?_ (by decide)
      unfold tellD
      generalize (deedR zs b 100 (initR s) (rs.getD j ⟨"return", []⟩).op (rs.getD j ⟨"return", []⟩).ns).2 = o
      cases o with
      | none => exact ⟨by show 1 ≤ 1000000; decide, fun e he => by rw [List.mem_singleton.mp he]; trivial⟩
      | some c => exact ⟨by show 2 ≤ 1000000; decide, fun e he => by
          rcases List.mem_cons.mp he with rfl | he
          · trivial
          · rw [List.mem_singleton.mp he]; trivial⟩
    walk_at "rd"
    refine rd_neD (d := tellD xs b rs p.1 j) (e := tellD ys b rs p.2 j) (rz2'.keep (Tk.of so)).dp (ry2.keep (Tk.of so)).dp (tsh lz) (tsh ly) ?_
    refine ⟨_, rfl, ?_⟩
    cases ht : PyData.eqv (tellD xs b rs p.1 j) (tellD ys b rs p.2 j) with
    | false =>
      have ept : partP xs ys b rs p j = true := by
        unfold partP
        rw [ht]
        rfl
      walk_at "rd"
      exact k1 ept H3 s13
    | true =>
    walk_at "rd"
    refine ⟨x, y, .ref o, us, us', xs, ys, b, stepP xs ys b rs p j, rfl, ⟨Mx.at_.same s13, Mx.rp.keep (Tk.of s13), Mx.l8, Mx.b2, Mx.ok⟩, ⟨My.at_.same s13, My.rp.keep (Tk.of s13), My.l8, My.b2, My.ok⟩, ro, ⟨g1, g2⟩, fun H4 s4 => ?_⟩
    have s14 := s13.trans s4
    cases hse : seeP xs ys (stepP xs ys b rs p j) with
    | false =>
      have ept : partP xs ys b rs p j = true := by
        unfold partP
        rw [ht, hse]
        rfl
      walk_at "rd"
      exact k1 ept H4 s14
    | true =>
      have ept : partP xs ys b rs p j = false := by
        unfold partP
        rw [ht, hse]
        rfl
      walk_at "rd"
      exact k2 ept o H4 (ro.keep (Tk.of s4)) ⟨g1, g2⟩ s14
end
open PySem PySem.Spec L2
section
variable {P : Program} {w : World} {K : PySem.W.Frag} {mg : Str → Option Value} {base : Heap}
open SeqAt in
/-- None is looked for among keys that are tuples: no entry is equal to it -/
theorem seek_non {prog : Program} {w : World} {A : Around} {E : Value → Shared → Prop} {s : Shared} {d : Addr} {ob : Obj} {tb : Array DictEntry} {ep : Nat} {ys : List (NestedKey × Addr × Value)} {Q : Option Nat → Shared → Prop} (hu : A.units + 8 < cLine)
    (ho : s.heap.get? d = some ob) (hd : ob.data = .dict tb ep) (he : tb.toList = ys.map (entryOfKey (nestedKind prog w))) (his : ∀ x ∈ ys, (nestedKind prog w).is s.heap x.1 x.2.1) (n : Int) (hq : Q none s) : wpAny (model prog w) A (dictFind d .none n) Q E s := by
  have key : ∀ (i : Nat) (en : DictEntry), tb[i]? = some en → ∃ (k : NestedKey) (b : Addr), en.key = .ref b ∧ (nestedKind prog w).is s.heap k b := fun i en hi => by
    have hm : en ∈ tb.toList := Array.mem_toList_iff.mpr (Array.mem_of_getElem? hi)
    rw [he] at hm
    obtain ⟨y, hy, rfl⟩ := List.mem_map.mp hm
    exact ⟨y.1, y.2.1, rfl, his y hy⟩
  have unl : ∀ (k : NestedKey) (b : Addr) {Q' : Bool → Shared → Prop}, (nestedKind prog w).is s.heap k b → Q' false s → wpAny (model prog w) A (eqBool (.ref b) .none) Q' E s := fun k b Q' hk hq' => by
    obtain ⟨hk, _⟩ := hk
    cases hk with
    | tup k1 k2 k3 k4 => exact EqAt.tuple_none ⟨_, k1, k2, _, k3⟩ (by omega) _ _ _ _ hq'
  unfold dictFind
  try with_reducible refine wpAny_holding ?_
  refine wpAny_bind (wpAny_dictEntries ho hd ?_)
  dsimp only
  generalize hP : placesWithHash tb.size (fun i => tb[i]?.map (·.hash)) n = P
  refine wpAny_ite_split (fun ha => ?_) (fun ha => ?_)
  · unfold dictWalkPlain
    refine wpAny_bind ?_
    refine wpAny_forIn_list _ (fun _ r s' => s' = s ∧ r.1 = none) _ ?_ ?_ _ _ ⟨rfl, rfl⟩
    · rintro i rest r s' ⟨rfl, hr⟩
      cases hi : tb[i]? with
      | none => exact wpAny_pure ⟨rfl, rfl⟩
      | some en =>
        obtain ⟨k, b, ek, hk⟩ := key i en hi
        dsimp only
        refine wpAny_ite_split (fun hh => ?_) (fun hh => wpAny_pure ⟨rfl, rfl⟩)
        rw [ek]
        refine wpAny_bind (wpAny_dictEpoch ho hd (wpAny_bind (unl k b hk (wpAny_bind (wpAny_dictEpoch ho hd ?_)))))
        refine wpAny_ite_split (fun hz => absurd hz (by simp)) (fun _ => ?_)
        refine wpAny_ite_split (fun hz => nomatch hz) (fun _ => ?_)
        exact wpAny_bind (wpAny_rule (wpAny_pure ⟨rfl, rfl⟩))
    · rintro ⟨r1, r2⟩ s' ⟨rfl, hr⟩
      obtain rfl : r1 = none := hr
      exact wpAny_pure hq
  have quiet : ∀ {Q' : Bool → Shared → Prop}, Q' false s → wpAny (model prog w) A (tableMayTell .none (P.filterMap fun i => tb[i]?.map (·.key))) Q' E s := fun {Q'} hq' => by
    unfold tableMayTell
    refine wpAny_ite_split (fun _ => wpAny_pure hq') (fun _ => ?_)
    refine wpAny_bind ((QuietAt.byValue (prog := prog) (w := w) (n := 8) (s := s) (v := .none) rfl) A E _ ?_)
    refine wpAny_ite_split (fun hz => nomatch hz) (fun _ => ?_)
    refine wpAny_bind ?_
    refine wpAny_forIn_list _ (fun rest r s' => s' = s ∧ r = (none, ()) ∧ ∀ v ∈ rest, ∃ k b, v = Value.ref b ∧ (nestedKind prog w).is s.heap k b) _ ?_ ?_ _ _ ⟨rfl, rfl, ?_⟩
    · rintro v rest r s' ⟨rfl, rfl, hr⟩
      obtain ⟨k, b, rfl, hk⟩ := hr v List.mem_cons_self
      refine wpAny_bind ((nestedKind prog w).quiet hk ?_)
      refine wpAny_ite_split (fun hz => nomatch hz) (fun _ => ?_)
      exact wpAny_pure ⟨rfl, rfl, fun v hv => hr v (List.mem_cons_of_mem _ hv)⟩
    · rintro r s' ⟨rfl, rfl, _⟩
      exact wpAny_pure hq'
    · intro v hv
      obtain ⟨i, _, hi⟩ := List.mem_filterMap.mp hv
      obtain ⟨en, hen, rfl⟩ := Option.map_eq_some_iff.mp hi
      obtain ⟨k, b, ek, hk⟩ := key i en hen
      exact ⟨k, b, ek, hk⟩
  refine wpAny_ite_split (fun hz => ?_) (fun _ => ?_)
  · refine wpAny_bind (wpAny_pure ?_)
    refine wpAny_ite_split (fun hz => nomatch hz) (fun _ => ?_)
    refine wpAny_bind ?_
    refine wpAny_forIn_list _ (fun _ r s' => s' = s ∧ r = (none, none)) _ ?_ ?_ _ _ ⟨rfl, rfl⟩
    · rintro i rest r s' ⟨rfl, rfl⟩
      cases hi : tb[i]? with
      | none => exact wpAny_pure ⟨rfl, rfl⟩
      | some en =>
        obtain ⟨k, b, ek, hk⟩ := key i en hi
        dsimp only
        refine wpAny_ite_split (fun hh => ?_) (fun hh => wpAny_pure ⟨rfl, rfl⟩)
        rw [ek]
        refine wpAny_bind (wpAny_dictEpoch ho hd (wpAny_bind (unl k b hk (wpAny_bind (wpAny_dictEpoch ho hd ?_)))))
        refine wpAny_ite_split (fun hz => absurd hz (by simp)) (fun _ => ?_)
        refine wpAny_ite_split (fun hz => nomatch hz) (fun _ => ?_)
        refine wpAny_bind (wpAny_rule ?_)
        refine wpAny_ite_split (fun hz => nomatch hz) (fun _ => ?_)
        exact wpAny_pure ⟨rfl, rfl⟩
    · rintro r s' ⟨rfl, rfl⟩
      exact wpAny_pure hq
  · refine wpAny_bind (quiet ?_)
    refine wpAny_ite_split (fun hz => nomatch hz) (fun _ => ?_)
    refine wpAny_bind ?_
    refine wpAny_forIn_list _ (fun _ r s' => s' = s ∧ r = (none, none)) _ ?_ ?_ _ _ ⟨rfl, rfl⟩
    · rintro i rest r s' ⟨rfl, rfl⟩
      cases hi : tb[i]? with
      | none => exact wpAny_pure ⟨rfl, rfl⟩
      | some en =>
        obtain ⟨k, b, ek, hk⟩ := key i en hi
        dsimp only
        refine wpAny_ite_split (fun hh => ?_) (fun hh => wpAny_pure ⟨rfl, rfl⟩)
        rw [ek]
        refine wpAny_bind (wpAny_dictEpoch ho hd (wpAny_bind (unl k b hk (wpAny_bind (wpAny_dictEpoch ho hd ?_)))))
        refine wpAny_ite_split (fun hz => absurd hz (by simp)) (fun _ => ?_)
        refine wpAny_ite_split (fun hz => nomatch hz) (fun _ => ?_)
        refine wpAny_bind (wpAny_rule ?_)
        refine wpAny_ite_split (fun hz => nomatch hz) (fun _ => ?_)
        exact wpAny_pure ⟨rfl, rfl⟩
    · rintro r s' ⟨rfl, rfl⟩
      exact wpAny_pure hq
theorem has_non {prog : Program} {w : World} {A : Around} {E : Value → Shared → Prop} {s : Shared} {d : Addr} {ys : List (NestedKey × Addr × Value)} {Q : Value → Shared → Prop} (hu : A.units + 64 < cLine) (hd : (d == sysModules) = false) (hm : s.heap.DictOfH (nestedKind prog w) d ys)
    (h : Q (.bool false) { s with toks := s.toks + NestedKey.none.draws }) : wpAny (model prog w) A (compareOp .In .none (.ref d)) Q E s := by
  obtain ⟨ob, tb, ep, ho, hc, hdd, he, his, hn⟩ := id hm
  show wpAny _ _ (contains (.ref d) .none >>= fun z => pure (.bool z)) Q E s
  refine wpAny_bind ?_
  refine wpAny_contains_slot hm.typeIs F.slot_dict_contains ?_
  refine call_meetsIn F.slot_dict_contains hm.typeIs F.entry_dict_contains (F.args_dict_contains_2 _ _) (S := fun A' R s' => A' = A ∧ s' = s ∧ R (.ok (.ret (.bool false))) { s with toks := s.toks + NestedKey.none.draws }) (fun A' R s' hS => ?_) ⟨rfl, rfl, wpAny_truthy_bool (wpAny_pure h)⟩
  obtain ⟨rfl, e1, hq⟩ := hS
  subst e1
  show wpAny _ _ (dictGet d .none >>= _) _ _ _
  refine wpAny_bind ?_
  unfold dictGet
  try with_reducible refine wpAny_holding ?_
  refine wpAny_bind (pyHash_key .none .none _ _ _ .none (by show _ + 0 < _; rw [Around.in1_units]; omega) (wpAny_bind (seek_non (A := A'.in1) (s := { s' with toks := s'.toks + NestedKey.none.draws }) (by rw [Around.in1_units]; omega) ho hdd he his _ (wpAny_pure ?_))))
  show wpAny _ _ (Builtin.Dict.pendingKey? d .none >>= _) _ _ _
  exact wpAny_bind (wpAny_pendingKey_other hd (wpAny_pure hq))
section
variable {X : Cx}
/-- x in d, x None or a key, d as it stands under its lock -/
def rInNO (P : Program) (w : World) : R2 := fun x y H Q => (x = .non ∧ ∃ (a : Addr) (o : Obj) (xs : List NE), y = .ref a ∧ H a = some (.frz o (dN P w a xs)) ∧ KeysN H xs ∧ Q (.bl false) H) ∨ rInNF P w x y H Q
theorem op_inNO (hu : X.A.units + 64 < cLine) {P : Program} {w : World} (h1 : X.prog = P := by rfl) (h2 : X.w = w := by rfl) : OpR X (compareOp .In) (rInNO P w) := by
  subst h1 h2
  intro pins s σ H x y v u Q I rx ry h
  rcases h with ⟨rfl, a, o, xs, rfl, e, ks, hq⟩ | h
  · obtain rfl : v = Value.none := rx
    obtain rfl : u = Value.ref a := ry
    obtain ⟨hd, _, _, ys, _, _, _, _, pr, dd, _⟩ := dnF_of I.hok e ks
    exact has_non hu hd dd ⟨.bl false, H, I.tok _, rfl, hq⟩
  · exact op_inNF hu rfl rfl pins s σ H x y v u Q I rx ry h
end
end
open PySem PySem.Spec L2
section
variable {P : Program} {w : World} {K : PySem.W.Frag} {mg : Str → Option Value} {base : Heap}
/-- a paper of pairs judged -/
def ahW (see : Pr → Bool) (pt : Pr → Nat → Bool) (f : Pr → Nat → Pr) (m : Nat) (p0 : Pr) (ps : List Pr) : Bool := decide (Pr.k p0 ∈ ps.map Pr.k) && ps.all fun p => see p && (List.range m).all fun j => !pt p j && decide (Pr.k (f p j) ∈ ps.map Pr.k)
theorem ahW_no {see : Pr → Bool} {pt : Pr → Nat → Bool} {f : Pr → Nat → Pr} {m : Nat} {p0 p : Pr} {ps : List Pr} (hs : p ∈ ps) (h : (see p && (List.range m).all fun j => !pt p j && decide (Pr.k (f p j) ∈ ps.map Pr.k)) = false) : ahW see pt f m p0 ps = false := by
  unfold ahW
  have e : (ps.all fun p => see p && (List.range m).all fun j => !pt p j && decide (Pr.k (f p j) ∈ ps.map Pr.k)) = false := by
    rw [List.all_eq_false]
    exact ⟨p, hs, by rw [h]; decide⟩
  rw [e, Bool.and_false]
def spAlikeHoldsW (C : Addr) : Sp := fun vs H Q _ => ∃ (x y q1 q2 M p : Addr) (us us' ms qs : List V) (xs ys : List Sg) (b : Int) (p0 : Pr) (rs : List Rw) (ps : List Pr), vs = [.ref x, .ref y, .ref q1, .ref q2, .ref M, .ref p] ∧ Mch C H x us xs b ∧ Mch C H y us' ys b ∧ Twins xs ys ∧ Rp H (.ref q1) p0.1.d ∧ Rp H (.ref q2) p0.2.d ∧ p0.1.ring = p0.2.ring ∧ H M = some (.lst ms) ∧ RpAll H ms (rs.map Rw.d) ∧ (∀ r ∈ rs, RwForm r ∧ rowFits r (xs.length : Int) = true) ∧ rs.length ≤ 900 ∧
  H p = some (.lst qs) ∧ RpAll H qs (ps.map Pr.d) ∧ (∀ p ∈ ps, GP xs ys b p) ∧ ps.length ≤ 900 ∧ ∀ H', Same H H' → Q (.bl (ahW (seeP xs ys) (partP xs ys b rs) (stepP xs ys b rs) rs.length p0 ps)) H'
theorem fn_alikeHoldsW {f C : Addr} {fd : FuncData} (B : BT mg) (F : Fun K "alike_holds" "alike_holds" s_alike_holds f fd)
    (C_refuse_pair : Cal P w K mg base "refuse_pair" 6 ["one", "other", "stand", "other_stand", "menu"] (spRefPair C)) (C_seen_alike : Cal P w K mg base "seen_alike" 3 ["one", "other", "pair"] (spSeeAlike C)) (C_pair_behind : Cal P w K mg base "pair_behind" 11 ["one", "other", "pair", "deed"] (spBehind C)) :
    FnOk P w K mg base CX0 12 f fd ["one", "other", "stand", "other_stand", "menu", "pairs"] (spAlikeHoldsW C) := by
  refine F.ok sc_alike_holds (fun vs H Q E h => ?_) (fun cdv A outer s H vs Q E hr h => ?_)
  · obtain ⟨x, y, q1, q2, M, p, us, us', ms, qs, xs, ys, b, p0, rs, ps, rfl, _⟩ := h
    rfl
  · obtain ⟨x, y, q1, q2, M, p, us, us', ms, qs, xs, ys, b, p0, rs, ps, rfl, Mx, My, tw, r1, r2, er, hM, rms, hrs, n9, hp, rqs, gps, p9, k⟩ := h
    refine ⟨_, (pss_cons (ps_expr (pe_cal C_refuse_pair (hr.mono (by omega)) rfl (pa_cons (pv 0) (pa_cons (pv 1) (pa_cons (pv 2) (pa_cons (pv 3) (pa_cons (pv 4) pa_nil)))))))
 (pss_cons (ps_set (i := 6) sc_alike_holds.nd rfl (Or.inr rfl) (pe_dcN (own := [("left", 8), ("right", 9)]) (g := gTup K 2 (gCons (gName 8) (gCons (gName 9) (gNil)))) hr.units rfl sc_alike_holds.nd (pi_listK (K := K) (pv 5)) (blkOk_by (own := [("left", 8), ("right", 9)]) (N := ["one", "other", "stand", "other_stand", "menu", "pairs", "listed", "pair", "left", "right", "deed"]) (sc := defScope s_alike_holds) (by decide +kernel)) (fun _ _ _ _ _ => (pg_tup (by rfl) (pgs_cons (pg_name (i := 8) sc_alike_holds.nd rfl (by first | exact Or.inl rfl | exact Or.inr rfl)) (pgs_cons (pg_name (i := 9) sc_alike_holds.nd rfl (by first | exact Or.inl rfl | exact Or.inr rfl)) pgs_nil)))) (fun _ _ _ _ _ => (pe_tup (pa_cons (pv 8) (pa_cons (pv 9) pa_nil)))) (fun _ _ _ _ _ => pe_bl)))
 (pss_cons (ps_if (pt_cmpR (op_notInN hr.units) (pe_tup (pa_cons (pv 2) (pa_cons (pv 3) pa_nil))) (pv 6) (by rfl)) (pss_one (ps_ret pe_bl)) pss_nil)
 (pss_cons (ps_lock (ps_for PassesOwn.never rfl (pi_keysN (pv 6)) (pg_name (i := 7) sc_alike_holds.nd rfl (Or.inr rfl))
 (pss_cons (ps_if (pt_not (pt_val (pe_cal C_seen_alike (hr.mono (by omega)) rfl (pa_cons (pv 0) (pa_cons (pv 1) (pa_cons (pv 7) pa_nil)))))) (pss_one (ps_ret pe_bl)) pss_nil)
 (pss_one (ps_if (pt_not (pt_val (pe_callB (r := rAll K) (cr_all rfl) rfl B.g_all (by decide +kernel) (pa_cons (pe_lc (own := [("deed", 10)]) (g := gName 10) (tt := tYes) rfl sc_alike_holds.nd (pi_listK (K := K) (pv 4)) (blkOk_by (own := [("deed", 10)]) (N := ["one", "other", "stand", "other_stand", "menu", "pairs", "listed", "pair", "left", "right", "deed"]) (sc := defScope s_alike_holds) (by decide +kernel)) (fun _ _ _ _ _ => (pg_name (i := 10) sc_alike_holds.nd rfl (by first | exact Or.inl rfl | exact Or.inr rfl))) (fun _ _ _ _ _ => pts_nil) (fun _ _ _ _ _ => (pe_cmpR (op_inNO hr.units) (pe_cal C_pair_behind (hr.mono (by omega)) rfl (pa_cons (pv 0) (pa_cons (pv 1) (pa_cons (pv 7) (pa_cons (pv 10) pa_nil))))) (pv 6) (by rfl)))) pa_nil)))) (pss_one (ps_ret pe_bl)) pss_nil)))))
 (pss_one (ps_ret pe_bl)))))), ?_⟩
    have lqs : qs.length = ps.length := by rw [rqs.length, List.length_map]
    have lms : ms.length = rs.length := by rw [rms.length, List.length_map]
    walk_at "rds"
    refine ⟨x, y, M, _, _, us, us', ms, xs, ys, b, p0.1, p0.2, rs, rfl, Mx, My, tw, r1, r2, er, hM, rms, hrs, fun H2 s12 => ?_⟩
    walk_at "rd"
    refine rd_dcN ?_
    walk_at "rd"
    refine ⟨p, rfl, ⟨_, SqL.of (s12 _ _ hp)⟩, fun D hD => ?_⟩
    refine dcN_it (walk_list (xs := qs)) (fun i H' => ∃ es, H' D = some (dN P w D es) ∧ HasN H' es ((ps.take i).map Pr.k) ∧ Same H2 H') ⟨[], upd_same, .nil, same_upd hD⟩ (fun i H' _ p => by obtain ⟨_, _, _, s3⟩ := p; exact SqL.of (s3 _ _ (s12 _ _ hp))) ?_ ?_
    · rintro i y' H3 H4 hi ⟨es, hDes, hN, s3⟩ ⟨rfl, hy⟩
      obtain ⟨d, hd, ry⟩ := rqs.get hy
      rw [List.getElem?_map] at hd
      obtain ⟨z, hz, rfl⟩ := Option.map_eq_some_iff.mp hd
      replace ry := ry.keep (Tk.of (s12.trans s3))
      obtain ⟨e, ve, rfl, he, hve⟩ := ry.tup_inv
      obtain ⟨a0, xr, rfl, ra0, hve⟩ := hve.cons_inv
      obtain ⟨a1, xr, rfl, ra1, hve⟩ := hve.cons_inv
      have e' := hve.nil_inv; subst e'
      walk_at "rd"
      refine ⟨rfl, ?_⟩
      walk_at "rd"
      intro o ho
      have so := same_upd (o := .tup [a0, a1]) ho
      have eo := upd_ofL (o := .tup [a0, a1]) ho
      have hDo := so _ _ hDes
      have hNo := hN.keep (Tk.of so)
      have ro : Rp (upd H4 o (.tup [a0, a1])) (.ref o) (Pr.d z) := .tup eo (.cons (ra0.keep (Tk.of so)) (.cons (ra1.keep (Tk.of so)) .nil))
      generalize upd H4 o (.tup [a0, a1]) = H5 at so eo hDo hNo ro
      have rk : Rp H5 (.ref o) (Pr.k z).data := by rw [Pr.k_d]; exact ro
      walk_at "rd"
      have hlen := hNo.len
      rw [List.length_map, List.length_take] at hlen
      have eT : (ps.take (i + 1)).map Pr.k = (ps.take i).map Pr.k ++ [Pr.k z] := by rw [List.take_add_one, hz, List.map_append]; rfl
      refine ⟨o, Pr.k z, es, rfl, hDo, hNo.keys, rk, Pr.k_depth z, by omega, putN es (Pr.k z) o (.bl true), upd_same, ?_, fun c o hc => ?_⟩
      · rw [eT]
        exact (hNo.put rk (Pr.k_depth z)).keep (Tk.dn hDo)
      · rw [upd_ne (ne_of_none hc hD)]
        exact so _ _ (s3 c o hc)
    rintro H3 ⟨es, hDes, hN, s3⟩
    rw [lqs, List.take_length] at hN
    have s123 := s12.trans s3
    walk_at "rd"
    intro o ho
    have so := same_upd (o := .tup [.ref q1, .ref q2]) ho
    have eo := upd_ofL (o := .tup [.ref q1, .ref q2]) ho
    have s1o := s123.trans so
    have ro : Rp (upd H3 o (.tup [.ref q1, .ref q2])) (.ref o) (Pr.d p0) := .tup eo (.cons (r1.keep (Tk.of s1o)) (.cons (r2.keep (Tk.of s1o)) .nil))
    have hDo := so _ _ hDes
    have hNo := hN.keep (Tk.of so)
    generalize upd H3 o (.tup [.ref q1, .ref q2]) = H3' at so eo s1o ro hDo hNo
    walk_at "rd"
    have rqk : Rp H3' (.ref o) (Pr.k p0).data := by rw [Pr.k_d]; exact ro
    refine ⟨o, D, Pr.k p0, es, rfl, rfl, hDo, hNo.keys, rqk, Pr.k_depth p0, _, rfl, ?_⟩
    rw [hNo.at]
    refine rd_ifn (fun hin => ?_) (fun hin => ?_)
    case refine_2 =>
      have hk := k H3' s1o
      have e : ahW (seeP xs ys) (partP xs ys b rs) (stepP xs ys b rs) rs.length p0 ps = false := by
        unfold ahW
        rw [hin]
        rfl
      rw [e] at hk
      walk_at "rd"
      exact hk
    walk_at "rd"
    refine rd_lock hDo True.intro fun od => ?_
    have neD : ∀ c o, H c = some o → c ≠ D := fun c o hc => ne_of_none (s12 c o hc) hD
    have sL : Same H (upd H3' D (.frz od (dN P w D es))) := fun c o hc => by rw [upd_ne (neD c o hc)]; exact s1o c o hc
    have hL : upd H3' D (.frz od (dN P w D es)) D = some (.frz od (dN P w D es)) := upd_same
    have hNL := hNo.keep (Tk.dn (o := .frz od (dN P w D es)) hDo)
    generalize upd H3' D (.frz od (dN P w D es)) = HL at sL hL hNL ⊢
    have unl : ∀ H', Same HL H' → Same H (upd H' D (dN P w D es)) := fun H' s c o hc => by rw [upd_ne (neD c o hc)]; exact s c o (sL c o hc)
    walk_at "rd"
    refine rd_ikN ?_
    walk_at "rd"
    refine ⟨D, od, es, rfl, hL, hNL.keys, ?_⟩
    refine for_inv walk_keysN (fun j σ' H' => ∃ c7 c8 c9 c10, σ' = [some (.ref x), some (.ref y), some (.ref q1), some (.ref q2), some (.ref M), some (.ref p), some (.ref D), c7, c8, c9, c10] ∧ Same HL H' ∧ ∀ e ∈ es.take j, ∀ s ∈ ps, Pr.k s = e.1 → (seeP xs ys s && (List.range rs.length).all fun j => !partP xs ys b rs s j && decide (Pr.k (stepP xs ys b rs s j) ∈ ps.map Pr.k)) = true)
      ⟨_, _, _, _, rfl, Same.refl _, fun e he => by rw [List.take_zero] at he; cases he⟩ (fun j σ' H' _ pp => by obtain ⟨_, _, _, _, _, sj, _⟩ := pp; exact ⟨sj _ _ hL, hNL.keys.keep (Tk.of sj)⟩) ?_ ?_
    · rintro B' j v0 σ2 Hd He hj ⟨c7, c8, c9, c10, rfl, sd1, hok⟩ ⟨rfl, e, he, rfl⟩
      obtain ⟨s, hs, hsk⟩ := List.mem_map.mp ((hNL.mem e.1).mp (List.mem_map.mpr ⟨e, List.mem_of_getElem? he, rfl⟩))
      have sH := sL.trans sd1
      have rts : Rp He (.ref e.2.1) (Pr.d s) := by
        have := (hNL.keys e (List.mem_of_getElem? he)).1.keep (Tk.of sd1)
        rw [← hsk, Pr.k_d] at this
        exact this
      have gs := gps s hs
      walk_at "rd"
      refine ⟨x, y, .ref e.2.1, us, us', xs, ys, b, s, rfl, ⟨Mx.at_.same sH, Mx.rp.keep (Tk.of sH), Mx.l8, Mx.b2, Mx.ok⟩, ⟨My.at_.same sH, My.rp.keep (Tk.of sH), My.l8, My.b2, My.ok⟩, rts, gs, fun Hf sf => ?_⟩
      have sLf := sd1.trans sf
      have sHf := sL.trans sLf
      walk_at "rd"
      refine rd_ifn (fun hsee => ?_) (fun hsee => ?_)
      case refine_2 =>
        walk_at "rd"
        have hk := k _ (unl _ sLf)
        rw [ahW_no hs (by rw [hsee]; rfl)] at hk
        exact ⟨sLf _ _ hL, hk⟩
      walk_at "rd"
      refine ⟨M, rfl, ⟨_, SqL.of (sHf _ _ hM)⟩, fun D2 hD2 => ?_⟩
      refine lc_it (walk_list (xs := ms)) (CompL D2 Hf (List.range rs.length) (fun j => V.bl (!partP xs ys b rs s j && decide (Pr.k (stepP xs ys b rs s j) ∈ ps.map Pr.k)))) (CompL.start hD2) (fun i H' _ pp => SqL.of (pp.2 _ _ (sHf _ _ hM))) ?_ ?_
      · rintro i z Hg Hg' hi pc ⟨rfl, hz⟩
        have hil : i < rs.length := by have := (List.getElem?_eq_some_iff.mp hz).1; omega
        have sg := sHf.trans pc.2
        have rtg : Rp Hg' (.ref e.2.1) (Pr.d s) := (rts.keep (Tk.of sf)).keep (Tk.of pc.2)
        walk_at "rd"
        refine ⟨rfl, ?_⟩
        walk_at "rd"
        refine ⟨x, y, .ref e.2.1, z, us, us', ms, xs, ys, b, s, rs, i, rfl, ⟨Mx.at_.same sg, Mx.rp.keep (Tk.of sg), Mx.l8, Mx.b2, Mx.ok⟩, ⟨My.at_.same sg, My.rp.keep (Tk.of sg), My.l8, My.b2, My.ok⟩, tw, rtg, gs, rms.keep (Tk.of sg), hrs, hil, hz, fun hpt Hh sh => ?_, fun hpt qn Hh rqn _ sh => ?_⟩
        · have sLh := (sLf.trans pc.2).trans sh
          walk_at "rd"
          refine .inl ⟨rfl, D, od, es, rfl, sLh _ _ hL, hNL.keys.keep (Tk.of sLh), ?_⟩
          exact pc.step hD2 (by omega) (by rw [List.getElem?_range hil]) sh (by rw [hpt]; rfl)
        have sLh := (sLf.trans pc.2).trans sh
        walk_at "rd"
        have rkh : Rp Hh (.ref qn) (Pr.k (stepP xs ys b rs s i)).data := by rw [Pr.k_d]; exact rqn
        refine .inr ⟨qn, D, od, Pr.k (stepP xs ys b rs s i), es, rfl, rfl, sLh _ _ hL, hNL.keys.keep (Tk.of sLh), rkh, Pr.k_depth _, ?_⟩
        rw [hNL.at]
        exact pc.step hD2 (by omega) (by rw [List.getElem?_range hil]) sh (by rw [hpt]; rfl)
      · intro Hg pc
        have hd2 := pc.end (by rw [List.length_range, lms])
        have sLg := sLf.trans pc.2
        walk_at "rd"
        refine rd_all (f := fun j => !partP xs ys b rs s j && decide (Pr.k (stepP xs ys b rs s j) ∈ ps.map Pr.k)) hd2 ?_
        walk_at "rd"
        refine rd_ifn (fun hb => ?_) (fun hb => ?_)
        · walk_at "rd"
          refine ⟨_, _, _, _, rfl, sLg, fun e' he' s' hs' hk' => ?_⟩
          rw [List.take_add_one, he] at he'
          rcases List.mem_append.mp he' with h1 | h1
          · exact hok e' h1 s' hs' hk'
          · obtain rfl : e' = e := List.mem_singleton.mp h1
            obtain rfl : s' = s := Pr.k_inj (hk'.trans hsk.symm)
            rw [hsee, hb]
            rfl
        · walk_at "rd"
          have hk := k _ (unl _ sLg)
          rw [ahW_no hs (by rw [hb, Bool.and_false])] at hk
          exact ⟨sLg _ _ hL, hk⟩
    · rintro σ' He ⟨c7, c8, c9, c10, rfl, sd1, hok⟩
      refine ⟨sd1 _ _ hL, ?_⟩
      have hk := k _ (unl _ sd1)
      have e : ahW (seeP xs ys) (partP xs ys b rs) (stepP xs ys b rs) rs.length p0 ps = true := by
        unfold ahW
        rw [hin, Bool.true_and, List.all_eq_true]
        intro s hs
        obtain ⟨e, he, hek⟩ := List.mem_map.mp ((hNL.mem (Pr.k s)).mpr (List.mem_map.mpr ⟨s, hs, rfl⟩))
        rw [List.take_length] at hok
        exact hok e he s hs hek.symm
      rw [e] at hk
      walk_at "rd"
      exact hk
theorem ok_alikeHoldsW {f C : Addr} {fd : FuncData} (B : BT mg) (F : Fun K "alike_holds" "alike_holds" s_alike_holds f fd) (hm : mg "alike_holds" = some (.ref f))
    (C_refuse_pair : Cal P w K mg base "refuse_pair" 6 ["one", "other", "stand", "other_stand", "menu"] (spRefPair C)) (C_seen_alike : Cal P w K mg base "seen_alike" 3 ["one", "other", "pair"] (spSeeAlike C)) (C_pair_behind : Cal P w K mg base "pair_behind" 11 ["one", "other", "pair", "deed"] (spBehind C)) :
    Cal P w K mg base "alike_holds" 12 ["one", "other", "stand", "other_stand", "menu", "pairs"] (spAlikeHoldsW C) := by
  refine ⟨f, fd, hm, F.kp, F.binds (ps := ["one", "other", "stand", "other_stand", "menu", "pairs"]) fun _ _ _ _ _ _ us hl => match us, hl with | [_, _, _, _, _, _], _ => rfl, fn_alikeHoldsW B F C_refuse_pair C_seen_alike C_pair_behind⟩
end
open PySem PySem.Spec L2
section
variable {P : Program} {w : World} {K : PySem.W.Frag} {mg : Str → Option Value} {base : Heap}
def spFirst0 (C : Addr) : Sp := fun vs H Q _ => ∃ (x : Addr) (us : List V) (xs : List Sg) (b r : Int), vs = [.ref x, .int r] ∧ MAt C H x us b ∧ RpAll H us (xs.map Sg.d) ∧ xs.length ≤ 900 ∧ 0 ≤ r ∧ r < 8 ∧ ∀ (v : V) (H' : Hp), Same H H' → Rp H' v (firstS xs r).d → Q v H'
theorem ok_first0 {f C : Addr} {fd : FuncData} (B : BT mg) (T : MC K mg C) (F : Fun K "first" "first" s_first f fd) (hm : mg "first" = some (.ref f)) (C_is_ring : Cal P w K mg base "is_ring" 3 ["number"] spRing) (G_POINTERS : GI mg "POINTERS" 4) :
    Cal P w K mg base "first" 4 ["machine", "ring"] (spFirst0 C) := by
  refine ⟨f, fd, hm, F.kp, F.binds (ps := ["machine", "ring"]) fun _ _ _ _ _ _ us hl => match us, hl with | [_, _], _ => rfl, ?_⟩
  refine F.ok sc_first (fun vs H Q E h => ?_) (fun cdv A outer s H vs Q E hr h => ?_)
  · obtain ⟨x, us, xs, b, r, rfl, _⟩ := h
    rfl
  · obtain ⟨x, us, xs, b, r, rfl, ⟨dx, q, hx, hq⟩, ra, hl, r0, r8, k1⟩ := h
    refine ⟨_, (pss_cons (ps_if (pt_not (pt_val (pe_cal C_is_ring (hr.mono (by omega)) rfl (pa_cons (pv 1) pa_nil)))) (pss_one ps_never) pss_nil)
 (pss_cons (ps_set (i := 2) sc_first.nd rfl (Or.inl rfl) (pe_callTy (cr_tupOf (K := K)) rfl B.g_tuple (by decide +kernel) (pa_cons (pe_lc (own := [("brackets", 3), ("rights", 4), ("gates", 5), ("words", 6), ("rows", 7)]) (g := gTup K 5 (gCons (gName 3) (gCons (gName 4) (gCons (gName 5) (gCons (gName 6) (gCons (gName 7) (gNil))))))) (tt := tYes) rfl sc_first.nd (pi_tupK (K := K) (pe_fldK (K := K) (pv 0) rfl)) (blkOk_by (own := [("brackets", 3), ("rights", 4), ("gates", 5), ("words", 6), ("rows", 7)]) (N := ["machine", "ring", "memory", "brackets", "rights", "gates", "words", "rows"]) (sc := defScope s_first) (by decide +kernel)) (fun _ _ _ _ _ => (pg_tup (by rfl) (pgs_cons (pg_name (i := 3) sc_first.nd rfl (by first | exact Or.inl rfl | exact Or.inr rfl)) (pgs_cons (pg_name (i := 4) sc_first.nd rfl (by first | exact Or.inl rfl | exact Or.inr rfl)) (pgs_cons (pg_name (i := 5) sc_first.nd rfl (by first | exact Or.inl rfl | exact Or.inr rfl)) (pgs_cons (pg_name (i := 6) sc_first.nd rfl (by first | exact Or.inl rfl | exact Or.inr rfl)) (pgs_cons (pg_name (i := 7) sc_first.nd rfl (by first | exact Or.inl rfl | exact Or.inr rfl)) pgs_nil))))))) (fun _ _ _ _ _ => pts_nil) (fun _ _ _ _ _ => (pv 6))) pa_nil)))
 (pss_one (ps_ret (pe_tup (pa_cons (pv 1) (pa_cons pe_int (pa_cons (pe_op (r := rRepT K) op_repT (pe_tup (pa_cons pe_non pa_nil)) (pe_gi G_POINTERS rfl)) (pa_cons (pv 2) pa_nil))))))))), ?_⟩
    have lu : us.length = xs.length := by rw [ra.length, List.length_map]
    walk_at "rds"
    refine ⟨r, rfl, ?_⟩
    walk_at "rd"
    refine rd_ifn (fun hb => ?_) (fun hb => ?_)
    case refine_2 =>
      rw [below_of r0 r8] at hb
      cases hb
    walk_at "rd"
    refine ⟨x, C, dx, _, _, rfl, hx, T.cl, T.nS, mFlds_s q b, ?_⟩
    walk_at "rd"
    refine ⟨q, rfl, ⟨_, SqT.of hq⟩, fun D hD => ?_⟩
    refine lc_it (walk_tup (xs := us)) (CompR D H xs (fun z => .tuple (z.ws.map Wd.d))) (CompR.start hD) (fun i H' _ p => by obtain ⟨_, _, _, p⟩ := p; exact SqT.of (p _ _ hq)) ?_ ?_
    · rintro i y H2 H3 hi pc ⟨rfl, hy⟩
      obtain ⟨_, _, _, s2⟩ := id pc
      obtain ⟨d, hd, ry⟩ := ra.get hy
      rw [List.getElem?_map] at hd
      obtain ⟨z, hz, rfl⟩ := Option.map_eq_some_iff.mp hd
      replace ry := ry.keep (Tk.of s2)
      obtain ⟨p, vs, rfl, hp, ha⟩ := ry.tup_inv
      obtain ⟨x0, xr, rfl, h0, ha⟩ := ha.cons_inv
      obtain ⟨x1, xr, rfl, h1, ha⟩ := ha.cons_inv
      obtain ⟨x2, xr, rfl, h2, ha⟩ := ha.cons_inv
      obtain ⟨x3, xr, rfl, h3, ha⟩ := ha.cons_inv
      obtain ⟨x4, xr, rfl, h4, ha⟩ := ha.cons_inv
      have e5 := ha.nil_inv; subst e5
      walk_at "rd"
      refine ⟨rfl, ?_⟩
      walk_at "rd"
      exact pc.step hD (by omega) hz (Same.refl _) h3
    intro H2 pc
    obtain ⟨vm, hvm, rvm, s2⟩ := pc.end lu
    walk_at "rd"
    refine ⟨D, vm, rfl, .inl ⟨SqL.of hvm, fun pm hpm => ?_⟩⟩
    have s3 := s2.trans (same_upd (o := .tup vm) hpm)
    have rm := rvm.keep (Tk.new (o := .tup vm) hpm)
    walk_at "rd"
    intro p1 hp1
    walk_at "rd"
    refine ⟨p1, 4, _, rfl, rfl, SqT.of upd_same, (fun z => nomatch z), by decide, by decide, by decide, fun p2 hp2 => ?_⟩
    walk_at "rd"
    intro p3 hp3
    have t1 := Tk.new (o := .tup [.non]) hp1
    have t2 := Tk.new (o := .tup (List.replicate (4 : Int).toNat [V.non]).flatten) hp2
    have t3 := Tk.new (o := .tup [.int r, .int 0, .ref p2, .ref pm]) hp3
    have tk := (t1.trans t2).trans t3
    refine k1 _ _ (((s3.trans (same_upd hp1)).trans (same_upd hp2)).trans (same_upd hp3)) (.tup upd_same (.cons (.int _) (.cons (.int _) (.cons (.tup (t3 _ _ upd_same) (.cons .non (.cons .non (.cons .non (.cons .non .nil))))) (.cons (.tup (tk _ _ upd_same) ?_) .nil)))))
    show RpAll _ vm ((xs.map Sg.ws).map fun ws => PyData.tuple (ws.map Wd.d))
    rw [List.map_map]
    exact rm.keep tk
end
open PySem PySem.Spec L2
section
variable {P : Program} {w : World} {K : PySem.W.Frag} {mg : Str → Option Value} {base : Heap}
theorem first_wf0 {xs : List Sg} {b r : Int} (hs : ∀ x ∈ xs, SgForm x ∧ sgFits x b xs.length = true) : WF xs (initR (firstS xs r)) := by
  refine ⟨rfl, fun r' g p hm => ?_, by show (xs.map Sg.ws).length = _; rw [List.length_map], fun ws hw => ?_, fun g p e => (nomatch e), fun c hc => (nomatch hc), Nat.zero_le _, Nat.zero_le _, Nat.zero_le _, Stk.nil⟩
  · have hm' : some (r', g, p) ∈ ([none, none, none, none] : List Pt) := hm
    simp at hm'
  · obtain ⟨y, hy, rfl⟩ := List.mem_map.mp (show ws ∈ xs.map Sg.ws from hw)
    refine ⟨by have := sg_small (hs y hy).2; omega, fun r' g p hm => ?_⟩
    have hf := (sg_parts (hs y hy).2).2.2.2.2.2.1 _ hm
    unfold wdFits at hf
    simp only [Bool.and_eq_true, decide_eq_true_eq] at hf
    obtain ⟨h1, h2, h3⟩ := hf
    have := below_iff.mp h2
    exact ⟨this.1, this.2, h3⟩
theorem first18 {xs : List Sg} {b r : Int} (b2 : 2 ≤ b) (hs : ∀ x ∈ xs, SgForm x ∧ sgFits x b xs.length = true) (hr : 0 ≤ r ∧ r < 8) : In18 xs b r (initR (firstS xs r)) := by
  refine ⟨hr, ⟨Int.le_refl _, by show (0 : Int) < b; omega⟩, fun r' g p hm => ?_, fun c hc => (nomatch hc), fun ws hw x hx => ?_, ?_, fun c hc => (nomatch hc), fun _ => rfl⟩
  · have hm' : some (r', g, p) ∈ ([none, none, none, none] : List Pt) := hm
    simp at hm'
  · obtain ⟨y, hy, rfl⟩ := List.mem_map.mp (show ws ∈ xs.map Sg.ws from hw)
    exact (sg_parts (hs y hy).2).2.2.2.2.2.1 x hx
  · show (xs.map Sg.ws).map List.length = _
    rw [List.map_map]
    rfl
theorem GW.first {xs : List Sg} {b r : Int} (b2 : 2 ≤ b) (hs : ∀ x ∈ xs, SgForm x ∧ sgFits x b xs.length = true) (hr : 0 ≤ r ∧ r < 8) : GW xs b (firstS xs r) := ⟨first_wf0 hs, first18 b2 hs hr⟩
theorem GW.num {xs : List Sg} {b a : Int} {s : Sd} (h : GW xs b s) (a0 : 0 ≤ a) (aB : a < b) : GW xs b ⟨s.ring, a, s.pt, s.me⟩ :=
  ⟨⟨h.1.pt4, h.1.ptg, h.1.me, h.1.mw, h.1.wh, h.1.ca, h.1.c8, h.1.s9, h.1.t9, h.1.sk⟩, ⟨h.2.rg, ⟨a0, aB⟩, h.2.pt, h.2.ca, h.2.me, h.2.ml, h.2.hd, h.2.h0⟩⟩
def xs68 : List Sg := [⟨7, 7, 7, "rw", 0, [.num 1], []⟩]
def rs68 : List Rw := [⟨"add", [1]⟩]
def st68 (a : Int) : Sd := ⟨7, a, [none, none, none, none], [[.num 1]]⟩
theorem deed68 (b a : Int) : deedR xs68 b 100 (initR (st68 a)) "add" [1] = ({ initR (st68 a) with a := (a + 1) % b }, none) := by
  have h : fnOf "add" xs68 b (initR (st68 a)) [1] = ({ initR (st68 a) with a := (a + 1) % b }, none) := by rw [fn_add]; rfl
  have hg : goR xs68 b 100 { initR (st68 a) with a := (a + 1) % b } = ({ initR (st68 a) with a := (a + 1) % b }, none) := by
    unfold goR
    rfl
  unfold deedR
  rw [h]
  dsimp only
  rw [hg]
theorem step68 (b a : Int) : stepD xs68 b rs68 (st68 a) 0 = st68 ((a + 1) % b) := by
  unfold stepD
  show (deedR xs68 b 100 (initR (st68 a)) "add" [1]).1.sd 7 = _
  rw [deed68]
  rfl
theorem tell68 (b a : Int) : tellD xs68 b rs68 (st68 a) 0 = toldD none := by
  unfold tellD
  show toldD (deedR xs68 b 100 (initR (st68 a)) "add" [1]).2 = _
  rw [deed68]
theorem inj68 {a c : Int} (h : (st68 a).k = (st68 c).k) : a = c := by
  have := Sd.k_inj h
  unfold st68 at this
  injection this
theorem ok68 {b : Int} (b2 : 2 ≤ b) : ∀ x ∈ xs68, SgForm x ∧ sgFits x b xs68.length = true := by
  intro x hx
  rw [List.mem_singleton.mp hx]
  refine ⟨fun r hr => absurd hr List.not_mem_nil, ?_⟩
  unfold sgFits
  have h1 : brFits 7 7 7 = true := by decide
  have h2 : riFits "rw" = true := by decide +kernel
  have h3 : below (1 : Int) b = true := below_of (by decide) (by omega)
  dsimp only
  rw [h1, h2]
  show (true && (true && (true && (true && (true && ((below 1 b && true) && true)))))) = true
  rw [h3]
  rfl
theorem rs68_ok : ∀ r ∈ rs68, RwForm r ∧ rowFits r (xs68.length : Int) = true := by
  intro r hr
  rw [List.mem_singleton.mp hr]
  have h : formOf "add" = some "n" := by decide +kernel
  refine ⟨⟨"n", h, by show ("n" : Str).cps.size = 1; decide +kernel⟩, ?_⟩
  unfold rowFits
  show (match formOf "add" with | some l => fitsNs l.cps.toList [1] _ | none => false) = true
  rw [h]
  rfl
theorem gw68 {b a : Int} (b2 : 2 ≤ b) (a0 : 0 ≤ a) (aB : a < b) : GW xs68 b (st68 a) := by
  have h : GW xs68 b (firstS xs68 7) := GW.first b2 (ok68 b2) ⟨by decide, by decide⟩
  exact h.num a0 aB
/-- the line of a search -/
def line68 (n : Nat) : Ln := (List.range n).map fun i : Nat => (st68 (i : Int), List.replicate i (0 : Int))
theorem line68_len (n : Nat) : (line68 n).length = n := by unfold line68; rw [List.length_map, List.length_range]
theorem line68_get {n i : Nat} (h : i < n) : (line68 n)[i]? = some (st68 (i : Int), List.replicate i (0 : Int)) := by
  unfold line68
  rw [List.getElem?_map, List.getElem?_range h]
  rfl
theorem line68_snoc (n : Nat) (h : 1 ≤ n) : line68 n ++ [(st68 (n : Int), List.replicate (n - 1) (0 : Int) ++ [0])] = line68 (n + 1) := by
  unfold line68
  rw [List.range_succ, List.map_append]
  have e : List.replicate (n - 1) (0 : Int) ++ [0] = List.replicate n 0 := by
    rw [← List.replicate_succ', show n - 1 + 1 = n by omega]
  rw [e]
  rfl
theorem line68_in {n i : Nat} : (st68 (i : Int)).k ∈ (line68 n).map (fun e => e.1.k) ↔ i < n := by
  unfold line68
  rw [List.map_map]
  constructor
  · intro h
    obtain ⟨j, hj, e⟩ := List.mem_map.mp h
    have := inj68 e
    have := List.mem_range.mp hj
    omega
  · intro h
    exact List.mem_map.mpr ⟨i, List.mem_range.mpr h, rfl⟩
theorem mod68 {n b : Nat} (h : n + 1 < b) : (((n : Nat) : Int) + 1) % ((b : Nat) : Int) = ((n + 1 : Nat) : Int) := by
  rw [Int.emod_eq_of_lt (by omega) (by omega)]
  omega
theorem mod68_last {b : Nat} (h : 1 ≤ b) : (((b - 1 : Nat) : Int) + 1) % ((b : Nat) : Int) = ((0 : Nat) : Int) := by
  rw [show ((b - 1 : Nat) : Int) + 1 = (b : Int) by omega, Int.emod_self]
  rfl
theorem bfs68 {b : Nat} {lc : Int} {hit : Sd → Bool} (b2 : 2 ≤ b) (hh : ∀ a, hit (st68 a) = false) : ∀ (d n fuel : Nat), n + d = b → 1 ≤ n → (n : Int) ≤ lc → d + 2 ≤ fuel → bfsB (stepD xs68 b rs68) hit lc 1 fuel (n - 1) (line68 n) = if (b : Int) ≤ lc then .run (line68 b) else .many := by
  intro d
  induction d with
  | zero =>
    intro n fuel hn h1 hlc hf
    obtain rfl : n = b := by omega
    obtain ⟨fuel, rfl⟩ : ∃ k, fuel = k + 1 := ⟨fuel - 1, by omega⟩
    rw [bfsB_at (line68_get (show n - 1 < n by omega))]
    have hr : rowB (stepD xs68 n rs68 (st68 ((n - 1 : Nat) : Int))) hit lc (List.replicate (n - 1) (0 : Int)) (List.range 1) (line68 n) = .run (line68 n) := by
      show (match putB lc (line68 n) (stepD xs68 n rs68 (st68 ((n - 1 : Nat) : Int)) 0) _ with | none => BR.many | some L' => if hit (stepD xs68 n rs68 (st68 ((n - 1 : Nat) : Int)) 0) = true then .hit L' _ else .run L') = _
      rw [step68, mod68_last h1]
      unfold putB
      rw [if_pos (line68_in.mpr (by omega))]
      dsimp only
      rw [hh, if_neg Bool.false_ne_true]
    rw [hr, if_pos hlc]
    dsimp only
    rw [show n - 1 + 1 = n by omega]
    exact bfsB_end (List.getElem?_eq_none (by rw [line68_len]; exact Nat.le_refl _))
  | succ d ih =>
    intro n fuel hn h1 hlc hf
    obtain ⟨fuel, rfl⟩ : ∃ k, fuel = k + 1 := ⟨fuel - 1, by omega⟩
    rw [bfsB_at (line68_get (show n - 1 < n by omega))]
    have hm : (((n - 1 : Nat) : Int) + 1) % ((b : Nat) : Int) = ((n : Nat) : Int) := by
      rw [mod68 (by omega), show n - 1 + 1 = n by omega]
    by_cases hl : (n : Int) < lc
    · have hr : rowB (stepD xs68 b rs68 (st68 ((n - 1 : Nat) : Int))) hit lc (List.replicate (n - 1) (0 : Int)) (List.range 1) (line68 n) = .run (line68 (n + 1)) := by
        show (match putB lc (line68 n) (stepD xs68 b rs68 (st68 ((n - 1 : Nat) : Int)) 0) _ with | none => BR.many | some L' => if hit (stepD xs68 b rs68 (st68 ((n - 1 : Nat) : Int)) 0) = true then .hit L' _ else .run L') = _
        rw [step68, hm]
        unfold putB
        rw [if_neg (fun h => absurd (line68_in.mp h) (Nat.lt_irrefl n)), if_pos (by rw [line68_len]; exact hl)]
        dsimp only
        rw [hh, if_neg Bool.false_ne_true]
        exact congrArg BR.run (line68_snoc n h1)
      rw [hr]
      dsimp only
      have := ih (n + 1) fuel (by omega) (by omega) (by omega) (by omega)
      rw [show n + 1 - 1 = n - 1 + 1 by omega] at this
      exact this
    · have hr : rowB (stepD xs68 b rs68 (st68 ((n - 1 : Nat) : Int))) hit lc (List.replicate (n - 1) (0 : Int)) (List.range 1) (line68 n) = .many := by
        show (match putB lc (line68 n) (stepD xs68 b rs68 (st68 ((n - 1 : Nat) : Int)) 0) _ with | none => BR.many | some L' => if hit (stepD xs68 b rs68 (st68 ((n - 1 : Nat) : Int)) 0) = true then .hit L' _ else .run L') = _
        rw [step68, hm]
        unfold putB
        rw [if_neg (fun h => absurd (line68_in.mp h) (Nat.lt_irrefl n)), if_neg (by rw [line68_len]; exact hl)]
      rw [hr, if_neg (by omega)]
theorem bfs0_68 {b : Nat} {lc : Int} {hit : Sd → Bool} (b2 : 2 ≤ b) (b6 : b ≤ 800) (h1 : 1 ≤ lc) (hh : ∀ a, hit (st68 a) = false) : bfs0 (stepD xs68 b rs68) hit lc 1 (st68 0) = if (b : Int) ≤ lc then .run (line68 b) else .many := by
  unfold bfs0
  rw [hh, if_neg Bool.false_ne_true]
  exact bfs68 b2 hh (b - 1) 1 901 (by omega) (by decide) h1 (by omega)
/-- the line of pairs -/
def lineP68 (n : Nat) : LnP := (List.range n).map fun i : Nat => ((st68 (i : Int), st68 (i : Int)), List.replicate i (0 : Int))
theorem lineP68_len (n : Nat) : (lineP68 n).length = n := by unfold lineP68; rw [List.length_map, List.length_range]
theorem lineP68_get {n i : Nat} (h : i < n) : (lineP68 n)[i]? = some ((st68 (i : Int), st68 (i : Int)), List.replicate i (0 : Int)) := by
  unfold lineP68
  rw [List.getElem?_map, List.getElem?_range h]
  rfl
theorem lineP68_snoc (n : Nat) (h : 1 ≤ n) : lineP68 n ++ [((st68 (n : Int), st68 (n : Int)), List.replicate (n - 1) (0 : Int) ++ [0])] = lineP68 (n + 1) := by
  unfold lineP68
  rw [List.range_succ, List.map_append]
  have e : List.replicate (n - 1) (0 : Int) ++ [0] = List.replicate n 0 := by
    rw [← List.replicate_succ', show n - 1 + 1 = n by omega]
  rw [e]
  rfl
theorem injP68 {a c : Int} (h : Pr.k (st68 a, st68 a) = Pr.k (st68 c, st68 c)) : a = c := by
  have := Pr.k_inj h
  have h1 := congrArg Prod.fst this
  unfold st68 at h1
  injection h1
theorem lineP68_in {n i : Nat} : Pr.k (st68 (i : Int), st68 (i : Int)) ∈ (lineP68 n).map (fun e => Pr.k e.1) ↔ i < n := by
  unfold lineP68
  rw [List.map_map]
  constructor
  · intro h
    obtain ⟨j, hj, e⟩ := List.mem_map.mp h
    have := injP68 e
    have := List.mem_range.mp hj
    omega
  · intro h
    exact List.mem_map.mpr ⟨i, List.mem_range.mpr h, rfl⟩
theorem stepP68 (b a : Int) : stepP xs68 xs68 b rs68 (st68 a, st68 a) 0 = (st68 ((a + 1) % b), st68 ((a + 1) % b)) := by
  unfold stepP
  rw [step68]
theorem seeP68 (a : Int) : seeP xs68 xs68 (st68 a, st68 a) = true := by
  unfold seeP
  exact SeqAt.eqv_refl _ seenP_lay
theorem partP68 (b a : Int) : partP xs68 xs68 b rs68 (st68 a, st68 a) 0 = false := by
  unfold partP
  rw [stepP68, seeP68, tell68, SeqAt.eqv_refl _ (show (toldD none).canLay0 = true by decide +kernel)]
  rfl
theorem bfsP68 {b : Nat} {lc : Int} (b2 : 2 ≤ b) : ∀ (d n fuel : Nat), n + d = b → 1 ≤ n → (n : Int) ≤ lc → d + 2 ≤ fuel → ((b : Int) ≤ lc → bfsP (stepP xs68 xs68 b rs68) (partP xs68 xs68 b rs68) lc 1 fuel (n - 1) (lineP68 n) = .run (lineP68 b)) ∧ (¬ (b : Int) ≤ lc → ∃ L, bfsP (stepP xs68 xs68 b rs68) (partP xs68 xs68 b rs68) lc 1 fuel (n - 1) (lineP68 n) = .many L) := by
  intro d
  induction d with
  | zero =>
    intro n fuel hn h1 hlc hf
    obtain rfl : n = b := by omega
    obtain ⟨fuel, rfl⟩ : ∃ k, fuel = k + 1 := ⟨fuel - 1, by omega⟩
    refine ⟨fun _ => ?_, fun h => absurd hlc h⟩
    rw [bfsP_at (lineP68_get (show n - 1 < n by omega))]
    have hr : rowP (stepP xs68 xs68 n rs68 (st68 ((n - 1 : Nat) : Int), st68 ((n - 1 : Nat) : Int))) (partP xs68 xs68 n rs68 (st68 ((n - 1 : Nat) : Int), st68 ((n - 1 : Nat) : Int))) lc (List.replicate (n - 1) (0 : Int)) (List.range 1) (lineP68 n) = .run (lineP68 n) := by
      show (if partP xs68 xs68 n rs68 (st68 ((n - 1 : Nat) : Int), st68 ((n - 1 : Nat) : Int)) 0 = true then PR.part _ _ else match putP lc (lineP68 n) (stepP xs68 xs68 n rs68 (st68 ((n - 1 : Nat) : Int), st68 ((n - 1 : Nat) : Int)) 0) _ with | none => PR.many _ | some L' => .run L') = _
      rw [partP68, if_neg Bool.false_ne_true, stepP68, mod68_last h1]
      unfold putP
      rw [if_pos (lineP68_in.mpr (by omega))]
    rw [hr]
    dsimp only
    rw [show n - 1 + 1 = n by omega]
    exact bfsP_end (List.getElem?_eq_none (by rw [lineP68_len]; exact Nat.le_refl _))
  | succ d ih =>
    intro n fuel hn h1 hlc hf
    obtain ⟨fuel, rfl⟩ : ∃ k, fuel = k + 1 := ⟨fuel - 1, by omega⟩
    rw [bfsP_at (lineP68_get (show n - 1 < n by omega))]
    have hm : (((n - 1 : Nat) : Int) + 1) % ((b : Nat) : Int) = ((n : Nat) : Int) := by
      rw [mod68 (by omega), show n - 1 + 1 = n by omega]
    by_cases hl : (n : Int) < lc
    · have hr : rowP (stepP xs68 xs68 b rs68 (st68 ((n - 1 : Nat) : Int), st68 ((n - 1 : Nat) : Int))) (partP xs68 xs68 b rs68 (st68 ((n - 1 : Nat) : Int), st68 ((n - 1 : Nat) : Int))) lc (List.replicate (n - 1) (0 : Int)) (List.range 1) (lineP68 n) = .run (lineP68 (n + 1)) := by
        show (if partP xs68 xs68 b rs68 (st68 ((n - 1 : Nat) : Int), st68 ((n - 1 : Nat) : Int)) 0 = true then PR.part _ _ else match putP lc (lineP68 n) (stepP xs68 xs68 b rs68 (st68 ((n - 1 : Nat) : Int), st68 ((n - 1 : Nat) : Int)) 0) _ with | none => PR.many _ | some L' => .run L') = _
        rw [partP68, if_neg Bool.false_ne_true, stepP68, hm]
        unfold putP
        rw [if_neg (fun h => absurd (lineP68_in.mp h) (Nat.lt_irrefl n)), if_pos (by rw [lineP68_len]; exact hl)]
        exact congrArg PR.run (lineP68_snoc n h1)
      rw [hr]
      dsimp only
      have := ih (n + 1) fuel (by omega) (by omega) (by omega) (by omega)
      rw [show n + 1 - 1 = n - 1 + 1 by omega] at this
      exact this
    · have hr : rowP (stepP xs68 xs68 b rs68 (st68 ((n - 1 : Nat) : Int), st68 ((n - 1 : Nat) : Int))) (partP xs68 xs68 b rs68 (st68 ((n - 1 : Nat) : Int), st68 ((n - 1 : Nat) : Int))) lc (List.replicate (n - 1) (0 : Int)) (List.range 1) (lineP68 n) = .many (lineP68 n) := by
        show (if partP xs68 xs68 b rs68 (st68 ((n - 1 : Nat) : Int), st68 ((n - 1 : Nat) : Int)) 0 = true then PR.part _ _ else match putP lc (lineP68 n) (stepP xs68 xs68 b rs68 (st68 ((n - 1 : Nat) : Int), st68 ((n - 1 : Nat) : Int)) 0) _ with | none => PR.many _ | some L' => .run L') = _
        rw [partP68, if_neg Bool.false_ne_true, stepP68, hm]
        unfold putP
        rw [if_neg (fun h => absurd (lineP68_in.mp h) (Nat.lt_irrefl n)), if_neg (by rw [lineP68_len]; exact hl)]
      rw [hr]
      exact ⟨fun h => absurd h (by omega), fun _ => ⟨_, rfl⟩⟩
theorem bfsP0_68 {b : Nat} {lc : Int} (b2 : 2 ≤ b) (b6 : b ≤ 800) (h1 : 1 ≤ lc) : ((b : Int) ≤ lc → bfsP0 (stepP xs68 xs68 b rs68) (partP xs68 xs68 b rs68) (seeP xs68 xs68) lc 1 (st68 0, st68 0) = .run (lineP68 b)) ∧ (¬ (b : Int) ≤ lc → ∃ L, bfsP0 (stepP xs68 xs68 b rs68) (partP xs68 xs68 b rs68) (seeP xs68 xs68) lc 1 (st68 0, st68 0) = .many L) := by
  unfold bfsP0
  rw [seeP68, if_pos rfl]
  exact bfsP68 b2 (b - 1) 1 901 (by omega) (by decide) h1 (by omega)
def cut68 (b out : Nat) : List Nat := (List.range b).take out ++ (List.range b).drop (out + 1)
theorem cut68_mem {b out i : Nat} : i ∈ cut68 b out ↔ i < b ∧ i ≠ out := by
  unfold cut68
  rw [List.mem_append, List.mem_iff_getElem?, List.mem_iff_getElem?]
  constructor
  · rintro (⟨j, hj⟩ | ⟨j, hj⟩)
    · rw [List.getElem?_take] at hj
      split at hj
      · have := List.getElem?_eq_some_iff.mp hj
        obtain ⟨h1, h2⟩ := this
        rw [List.getElem_range] at h2
        rw [List.length_range] at h1
        omega
      · cases hj
    · rw [List.getElem?_drop] at hj
      obtain ⟨h1, h2⟩ := List.getElem?_eq_some_iff.mp hj
      rw [List.getElem_range] at h2
      rw [List.length_range] at h1
      omega
  · rintro ⟨h1, h2⟩
    by_cases h : i < out
    · exact .inl ⟨i, by rw [List.getElem?_take, if_pos h, List.getElem?_range h1]⟩
    · exact .inr ⟨i - (out + 1), by rw [List.getElem?_drop, show out + 1 + (i - (out + 1)) = i by omega, List.getElem?_range h1]⟩
theorem phR68 {b : Nat} {hit : Sd → Bool} (b2 : 2 ≤ b) (hh : ∀ a, hit (st68 a) = false) : phR (stepD xs68 b rs68) hit 1 (st68 0) ((List.range b).map fun i => st68 ((i : Nat) : Int)) = true := by
  have hk : ∀ i : Nat, i < b → (st68 ((i : Nat) : Int)).k ∈ ((List.range b).map fun i => st68 ((i : Nat) : Int)).map Sd.k := fun i hi => List.mem_map.mpr ⟨_, List.mem_map.mpr ⟨i, List.mem_range.mpr hi, rfl⟩, rfl⟩
  unfold phR
  rw [decide_eq_true (show (st68 0).k ∈ ((List.range b).map fun i => st68 ((i : Nat) : Int)).map Sd.k from hk 0 (by omega)), Bool.true_and, List.all_eq_true]
  intro s hs
  obtain ⟨i, hi, rfl⟩ := List.mem_map.mp hs
  have hi := List.mem_range.mp hi
  rw [hh, Bool.not_false, Bool.true_and, List.all_eq_true]
  intro j hj
  obtain rfl : j = 0 := by have := List.mem_range.mp hj; omega
  rw [step68]
  refine decide_eq_true ?_
  by_cases h : i + 1 < b
  · rw [mod68 h]; exact hk _ h
  · obtain rfl : i = b - 1 := by omega
    rw [mod68_last (by omega)]
    exact hk 0 (by omega)
theorem phR68_no {b out : Nat} {hit : Sd → Bool} (ho : out < b) : phR (stepD xs68 b rs68) hit 1 (st68 0) ((cut68 b out).map fun i => st68 ((i : Nat) : Int)) = false := by
  have hn : ∀ i : Nat, (st68 ((i : Nat) : Int)).k ∈ ((cut68 b out).map fun i => st68 ((i : Nat) : Int)).map Sd.k → i ≠ out := fun i h => by
    obtain ⟨s, hs, e⟩ := List.mem_map.mp h
    obtain ⟨j, hj, rfl⟩ := List.mem_map.mp hs
    have e2 := inj68 e
    have := (cut68_mem.mp hj).2
    omega
  by_cases h0 : out = 0
  · unfold phR
    rw [decide_eq_false (show ¬ (st68 0).k ∈ ((cut68 b out).map fun i => st68 ((i : Nat) : Int)).map Sd.k from fun h => hn 0 h h0.symm), Bool.false_and]
  · refine phR_no (s := st68 ((out - 1 : Nat) : Int)) (List.mem_map.mpr ⟨out - 1, cut68_mem.mpr ⟨by omega, by omega⟩, rfl⟩) ?_
    rw [Bool.and_eq_false_iff]
    refine .inr ?_
    rw [List.all_eq_false]
    refine ⟨0, List.mem_range.mpr (by decide), ?_⟩
    rw [step68, mod68 (by omega), show out - 1 + 1 = out by omega]
    rw [decide_eq_false (fun h => hn out h rfl)]
    decide
abbrev pr68 (i : Nat) : Pr := (st68 ((i : Nat) : Int), st68 ((i : Nat) : Int))
theorem ahW68 {b : Nat} (b2 : 2 ≤ b) : ahW (seeP xs68 xs68) (partP xs68 xs68 b rs68) (stepP xs68 xs68 b rs68) 1 (pr68 0) ((List.range b).map pr68) = true := by
  have hk : ∀ i : Nat, i < b → Pr.k (pr68 i) ∈ ((List.range b).map pr68).map Pr.k := fun i hi => List.mem_map.mpr ⟨_, List.mem_map.mpr ⟨i, List.mem_range.mpr hi, rfl⟩, rfl⟩
  unfold ahW
  rw [decide_eq_true (hk 0 (by omega)), Bool.true_and, List.all_eq_true]
  intro s hs
  obtain ⟨i, hi, rfl⟩ := List.mem_map.mp hs
  have hi := List.mem_range.mp hi
  rw [seeP68, Bool.true_and, List.all_eq_true]
  intro j hj
  obtain rfl : j = 0 := by have := List.mem_range.mp hj; omega
  rw [partP68, Bool.not_false, Bool.true_and, stepP68]
  refine decide_eq_true ?_
  by_cases h : i + 1 < b
  · rw [mod68 h]; exact hk _ h
  · obtain rfl : i = b - 1 := by omega
    rw [mod68_last (by omega)]
    exact hk 0 (by omega)
theorem ahW68_no {b out : Nat} (ho : out < b) : ahW (seeP xs68 xs68) (partP xs68 xs68 b rs68) (stepP xs68 xs68 b rs68) 1 (pr68 0) ((cut68 b out).map pr68) = false := by
  have hn : ∀ i : Nat, Pr.k (pr68 i) ∈ ((cut68 b out).map pr68).map Pr.k → i ≠ out := fun i h => by
    obtain ⟨s, hs, e⟩ := List.mem_map.mp h
    obtain ⟨j, hj, rfl⟩ := List.mem_map.mp hs
    have e2 := injP68 e
    have := (cut68_mem.mp hj).2
    omega
  by_cases h0 : out = 0
  · unfold ahW
    rw [decide_eq_false (fun h => hn 0 h h0.symm), Bool.false_and]
  · refine ahW_no (p := pr68 (out - 1)) (List.mem_map.mpr ⟨out - 1, cut68_mem.mpr ⟨by omega, by omega⟩, rfl⟩) ?_
    rw [Bool.and_eq_false_iff]
    refine .inr ?_
    rw [List.all_eq_false]
    refine ⟨0, List.mem_range.mpr (by decide), ?_⟩
    rw [stepP68, mod68 (by omega), show out - 1 + 1 = out by omega]
    rw [decide_eq_false (fun h => hn out h rfl), Bool.and_false]
    decide
end
open PySem PySem.Spec L2
section
variable {P : Program} {w : World} {K : PySem.W.Frag} {mg : Str → Option Value} {base : Heap}
theorem fF_no {v0 v1 v2 v3 : V} {n : Str} (h : (n == "limit") = false ∧ (n == "things") = false ∧ (n == "ways") = false ∧ (n == "taken") = false) : (fF v0 v1 v2 v3).lookup n = none := by
  obtain ⟨h1, h2, h3, h4⟩ := h
  unfold fF
  simp only [List.lookup, h1, h2, h3, h4]
theorem rd_nn {A B : Prop} (h : B) : if (!decide (V.non = V.non)) = true then A else B := by simpa using h
def spSearch (C CI TM : Addr) : Sp := fun vs H Q E => ∃ (x q M : Addr) (us ms : List V) (xs : List Sg) (b : Int) (sd : Sd) (rs : List Rw) (wv : V) (wo : Option (Int × Int × Wd)) (lim : Int), vs = [.ref x, .ref q, .ref M, wv, .int lim] ∧ Mch C H x us xs b ∧ Rp H (.ref q) sd.d ∧ WF xs (initR sd) ∧ H M = some (.lst ms) ∧ RpAll H ms (rs.map Rw.d) ∧ (∀ r ∈ rs, RwForm r ∧ rowFits r (xs.length : Int) = true) ∧ rs.length ≤ 900 ∧
  Rp H wv (wishD wo) ∧ wo = none ∧ 1 ≤ lim ∧ lim.natAbs.log2 < 1920 ∧ (900 < lim → bfs0 (stepD xs b rs) (hitW wo) (min lim 900) rs.length sd ≠ .many) ∧
  (∀ L, bfs0 (stepD xs b rs) (hitW wo) (min lim 900) rs.length sd = .run L → ∀ (p ls : Addr) (qs : List V) (H' : Hp), H' p = some (.tup [.ref ls, .non]) → H' ls = some (.lst qs) → RpAll H' qs (L.map fun e => e.1.d) → H ls = none → Same H H' → Q (.ref p) H') ∧
  (∀ L w, bfs0 (stepD xs b rs) (hitW wo) (min lim 900) rs.length sd = .hit L w → ∀ (p ls wl : Addr) (qs : List V) (H' : Hp), H' p = some (.tup [.ref ls, .ref wl]) → H' ls = some (.lst qs) → RpAll H' qs (L.map fun e => e.1.d) → H ls = none → H' wl = some (.lst (w.map V.int)) → H wl = none → Same H H' → Q (.ref p) H') ∧
  (bfs0 (stepD xs b rs) (hitW wo) (min lim 900) rs.length sd = .many → ∀ (d : Addr) (H' : Hp), H d = none → H' d = some (.xd [("what", .int lim)]) → Same H H' → E (.ref TM) (some d) H')
theorem ok_search {f fI fD C CI CR CF TM : Addr} {fd fdI fdD : FuncData} {dsD : List Value} (B : BT mg) (T : FiC K mg CI) (F : Fun K "search" "search" s_search f fd) (hm : mg "search" = some (.ref f)) (MkF : Mk K CI fI) (F_finit : FnOk P w K mg base CX0 1 fI fdI ["self", "start", "limit"] (spFInit P w CI)) (bFI : Binds K fdI ["self", "start", "limit"] [])
    (M_more : Mth P w K mg base CI "more" 1 ["self"] (spMore P w CI)) (M_take : Mth P w K mg base CI "take" 1 ["self"] (spTake P w CI)) (M_put : MthR P w K mg base CI "put" 4 ["self", "thing", "way"] (spPut P w CI TM))
    (hmD : mg "done" = some (.ref fD)) (hkD : PySem.W.keepIn K (.ref fD) = true) (bD : Binds K fdD ["machine", "stand", "deed", "most"] dsD) (vD : Vals [.int 100] dsD) (F_done : FnOk P w K mg base CX0 10 fD fdD ["machine", "stand", "deed", "most"] (spDone C CR CF actOps))
    (C_wish_holds : Cal P w K mg base "wish_holds" 1 ["wish", "stand"] (fun _ _ _ _ => False)) :
    CalX P w K mg base "search" 11 ["machine", "stand", "menu", "wish", "limit"] (spSearch C CI TM) := by
  refine ⟨f, fd, hm, F.kp, F.binds (ps := ["machine", "stand", "menu", "wish", "limit"]) fun _ _ _ _ _ _ us hl => match us, hl with | [_, _, _, _, _], _ => rfl, ?_⟩
  refine F.okX sc_search (fun vs H Q E h => ?_) (fun cdv A outer s H vs Q E hr h => ?_)
  · obtain ⟨x, q, M, us, ms, xs, b, sd, rs, wv, wo, lim, rfl, _⟩ := h
    rfl
  · obtain ⟨x, q, M, us, ms, xs, b, sd, rs, wv, wo, lim, rfl, Mc, rq, wf, hM, rms, hrs, n9, rwv, rfl, lim1, hlim, hcap, k1, k2, k3⟩ := h
    refine ⟨_, (pss_cons (ps_set (i := 5) sc_search.nd rfl (Or.inl rfl) (pe_make MkF F_finit (hr.mono (by omega)) rfl T.mgC bFI .nil pass0 (pa_cons (pv 1) (pa_cons (pv 4) pa_nil))))
 (pss_cons (ps_if (PW.pt (pw_and (pt_cmpR op_notN (pv 3) pe_non (nomark _)) (pw_and1 (pt_val (pe_cal C_wish_holds (hr.mono (by omega)) rfl (pa_cons (pv 3) (pa_cons (pv 1) pa_nil))))))) (pss_one (ps_ret (pe_tup (pa_cons (pe_fldK (K := K) (pv 5) rfl) (pa_cons (pe_lst pa_nil) pa_nil))))) pss_nil)
 (pss_cons (ps_while (passes_of rfl) (pt_val (pe_mth0 M_more T.cl (hr.mono (by omega)) (pv 5))) (pss_cons (ps_asg (pe_mth0 M_take T.cl (hr.mono (by omega)) (pv 5)) (pg_tup (by rfl) (pgs_cons (pg_name (i := 6) sc_search.nd rfl (Or.inl rfl)) (pgs_cons (pg_name (i := 7) sc_search.nd rfl (Or.inl rfl)) pgs_nil))))
 (pss_one (ps_for (passes_of rfl) rfl (pi_enum rfl B.g_enumerate (pa_cons (pv 2) pa_nil)) (pg_tup (by rfl) (pgs_cons (pg_name (i := 8) sc_search.nd rfl (Or.inl rfl)) (pgs_cons (pg_name (i := 9) sc_search.nd rfl (Or.inl rfl)) pgs_nil)))
 (pss_cons (ps_asg (pe_call F_done (hr.mono (by omega)) rfl hmD hkD bD vD pass0 (pa_cons (pv 0) (pa_cons (pv 6) (pa_cons (pv 9) pa_nil)))) (pg_tup (by rfl) (pgs_cons (pg_name (i := 10) sc_search.nd rfl (Or.inl rfl)) (pgs_cons (pg_name (i := 11) sc_search.nd rfl (Or.inl rfl)) pgs_nil))))
 (pss_cons (ps_expr (pe_mthR (E := E) M_put T.cl (hr.mono (by omega)) (takes_of rfl rfl rfl rfl) (pv 5) (pa_cons (pv 10) (pa_cons (pe_op op_cat (pv 7) (pe_lst (pa_cons (pv 8) pa_nil))) pa_nil))))
 (pss_one (ps_if (PW.pt (pw_and (pt_cmpR op_notN (pv 3) pe_non (nomark _)) (pw_and1 (pt_val (pe_cal C_wish_holds (hr.mono (by omega)) rfl (pa_cons (pv 3) (pa_cons (pv 10) pa_nil))))))) (pss_one (ps_ret (pe_tup (pa_cons (pe_fldK (K := K) (pv 5) rfl) (pa_cons (pe_op op_cat (pv 7) (pe_lst (pa_cons (pv 8) pa_nil))) pa_nil))))) pss_nil))))))))
 (pss_one (ps_ret (pe_tup (pa_cons (pe_fldK (K := K) (pv 5) rfl) (pa_cons pe_non pa_nil)))))))), ?_⟩
    cases rwv
    walk_at "rds"
    intro xf dx hx1 hx2 hne
    have s3 : Same H (upd (upd H dx (.own xf)) xf (.ins CI dx [])) := (same_upd hx2).trans (same_upd (by rw [upd_ne (Ne.symm hne)]; exact hx1))
    have rqk : Rp H (.ref q) sd.k.data := by rw [Sd.k_d]; exact rq
    refine ⟨H, xf, dx, q, sd.k, lim, rfl, upd_same, hx1, s3, rqk.keep (Tk.of s3), sd.k_depth, fun wl H1 F1 tk1 => ⟨rfl, ?_⟩⟩
    walk_at "rd"
    refine ⟨rfl, ?_⟩
    walk_at "rd"
    have ebf : bfs0 (stepD xs b rs) (hitW none) (min lim 900) rs.length sd = bfsB (stepD xs b rs) (hitW none) (min lim 900) rs.length 901 0 [(sd, [])] := by
      unfold bfs0
      exact if_neg (fun z => nomatch z)
    rw [ebf] at hcap k1 k2 k3
    generalize hres : bfsB (stepD xs b rs) (hitW none) (min lim 900) rs.length 901 0 [(sd, [])] = res at hcap k1 k2 k3
    refine rd_nn ?_
    walk_at "rd"
    have hlc : 1 ≤ min lim 900 := by omega
    refine ⟨fun i σ' H' => ∃ (tk : Nat) (L : Ln) (ts : List Th) (c6 c7 c8 c9 c10 c11 : Option V), σ' = [some (.ref x), some (.ref q), some (.ref M), some .non, some (.int lim), some (.ref xf), c6, c7, c8, c9, c10, c11] ∧ FAt P w CI H H' xf lim ts tk ∧ TL ts L ∧ (L.length : Int) ≤ min lim 900 ∧ (∀ e ∈ L, WF xs (initR e.1) ∧ e.2.length ≤ tk) ∧ i + tk = 901 ∧ bfsB (stepD xs b rs) (hitW none) (min lim 900) rs.length i tk L = res,
      ⟨901, 0, [(sd, [])], [⟨sd.k, q, wl, []⟩], _, _, _, _, _, _, rfl, F1, rfl, hlc, fun e he => by rw [List.mem_singleton.mp he]; exact ⟨wf, Nat.le_refl _⟩, rfl, hres⟩, ?_⟩
    rintro i σ1 Ha ⟨tk, L, ts, c6, c7, c8, c9, c10, c11, rfl, Fa, hTL, hL9, hwf, hit, hb⟩
    obtain ⟨dx1, ls, D, g1, g2, g3, n1, n2, n3, g4⟩ := id Fa.ex
    have lts := hTL.len
    have sa := Fa.sm
    walk_at "rd"
    refine ⟨xf, dx1, _, rfl, g1, fF_no (by decide +kernel), ?_⟩
    walk_at "rd"
    refine ⟨H, xf, lim, ts, tk, rfl, Fa, fun Hb sb => ?_⟩
    have Fb := Fa.same sb
    have g1b := sb _ _ g1
    walk_at "rd"
    refine rd_ifd (fun hlt => ?_) (fun hlt => ?_)
    case refine_2 =>
      have eres : res = .run L := by
        rw [← hb]
        exact bfsB_end (List.getElem?_eq_none (by omega))
      walk_at "rd"
      refine ⟨xf, CI, dx1, _, _, rfl, g1b, T.cl, T.n_things, fF_things, ?_⟩
      walk_at "rd"
      intro p hp
      have s3 := same_upd (o := .tup [.ref ls, .non]) hp
      exact k1 L eres p ls _ _ upd_same (s3 _ _ (sb _ _ g2)) ((hTL.rp fun t ht => ⟨((Fa.ks t ht).1.keep (Tk.of sb)).keep (Tk.of s3), (Fa.ks t ht).2⟩)) n2 (sa.trans (sb.trans s3))
    show ∃ N : L2.St → Hp → Prop, _
    refine ⟨_, fun σ' H' h => h, ?_⟩
    obtain ⟨e, he⟩ : ∃ e, L[tk]? = some e := ⟨_, List.getElem?_eq_getElem (show tk < L.length by omega)⟩
    obtain ⟨t, ht, etk, ens⟩ := hTL.get he
    obtain ⟨i, rfl⟩ : ∃ i', i = i' + 1 := ⟨i - 1, by omega⟩
    walk_at "rd"
    refine ⟨xf, dx1, _, rfl, g1b, fF_no (by decide +kernel), ?_⟩
    walk_at "rd"
    refine ⟨H, xf, lim, ts, tk, t, rfl, Fb, ht, fun pt Hc hpt Fc tkc => ?_⟩
    have sc := Fc.sm
    walk_at "rd"
    refine ⟨M, ms, rfl, SqL.of (sc _ _ hM), ?_⟩
    have lms : ms.length = rs.length := by rw [rms.length, List.length_map]
    obtain ⟨ewf, ewl⟩ := hwf e (List.mem_of_getElem? he)
    refine for_inv walk_enum (fun j σ' H' => ∃ (L' : Ln) (ts' : List Th) (c8 c9 c10 c11 : Option V), σ' = [some (.ref x), some (.ref q), some (.ref M), some .non, some (.int lim), some (.ref xf), some (.ref t.q), some (.ref t.wl), c8, c9, c10, c11] ∧ FAt P w CI H H' xf lim ts' (tk + 1) ∧ TL ts' L' ∧ (L'.length : Int) ≤ min lim 900 ∧ (∀ e ∈ L', WF xs (initR e.1) ∧ e.2.length ≤ tk + 1) ∧ t ∈ ts' ∧ j ≤ rs.length ∧ rowB (stepD xs b rs e.1) (hitW none) (min lim 900) e.2 ((List.range rs.length).drop j) L' = rowB (stepD xs b rs e.1) (hitW none) (min lim 900) e.2 (List.range rs.length) L)
      ⟨L, ts, _, _, _, _, rfl, Fc, hTL, hL9, fun e he => ⟨(hwf e he).1, by have := (hwf e he).2; omega⟩, List.mem_of_getElem? ht, Nat.zero_le _, rfl⟩ (fun j σ' H' _ p => by obtain ⟨_, _, _, _, _, _, _, p, _⟩ := p; exact SqL.of (p.sm _ _ hM)) ?_ ?_
    · rintro B' j v0 σ2 Hd He hj ⟨L1, ts1, c8, c9, c10, c11, rfl, Fd, hTL1, hL1, hwf1, hmem, hjm, hrow⟩ ⟨T', y, z, rfl, hT, rfl, ey, ez⟩
      cases ey
      obtain ⟨d, hd, rz⟩ := rms.get ez
      rw [List.getElem?_map] at hd
      obtain ⟨r, hr1, rfl⟩ := Option.map_eq_some_iff.mp hd
      obtain ⟨rf, rk⟩ := hrs r (List.mem_of_getElem? hr1)
      have hjl : j < rs.length := (List.getElem?_eq_some_iff.mp hr1).1
      have sT := same_upd (o := .tup [.int (j : Int), z]) hT
      have Fe := Fd.same sT
      have se := Fe.sm
      have rze := rz.keep (Tk.of se)
      have Mce : Mch C (upd Hd T' (.tup [.int (j : Int), z])) x us xs b := ⟨Mc.at_.same se, Mc.rp.keep (Tk.of se), Mc.l8, Mc.b2, Mc.ok⟩
      have rte : Rp (upd Hd T' (.tup [.int (j : Int), z])) (.ref t.q) e.1.d := by
        have := (Fe.ks t hmem).1
        rw [etk, Sd.k_d] at this
        exact this
      have estep : stepD xs b rs e.1 j = (deedR xs b 100 (initR e.1) r.op r.ns).1.sd e.1.ring := by
        unfold stepD
        rw [List.getD_eq_getElem?_getD, hr1]
        rfl
      obtain ⟨op, ns⟩ := r
      obtain ⟨ho, hk⟩ := row_okR rf rk
      have wfn := deed_good (b := b) (n := 100) (fun x hx => Mc.ok x hx) ewf ho hk (by decide) e.1.ring
      have l8 := Mc.l8
      walk_at "rd"
      refine ⟨x, us, xs, b, .ref t.q, z, e.1, op, ns, 100, rfl, Mce, rte, rze, ewf, ho, rf, rk, on_pre (n := 100) ewf ho hk (by decide), ?_, fun zz Hf rzz sf => ?_⟩
      · have h1 : (deedR xs b 100 (initR e.1) op ns).1.me.length = xs.length := wfn.me
        show (deedR xs b 100 (initR e.1) op ns).1.me.length ≤ 900
        omega
      obtain ⟨qz, vz, rfl, hqz, haz⟩ := rzz.tup_inv
      obtain ⟨z1, zr, rfl, rz1, haz⟩ := haz.cons_inv
      obtain ⟨z2, zr, rfl, rz2, haz⟩ := haz.cons_inv
      have e3 := haz.nil_inv; subst e3
      replace rz1 : Rp Hf z1 (stepD xs b rs e.1 j).d := by rw [estep]; exact rz1
      have wfs : WF xs (initR (stepD xs b rs e.1 j)) := by rw [estep]; exact wfn
      obtain ⟨qs, vq, rfl, hqs, haq⟩ := id rz1.tup_inv
      have Ff := Fe.same sf
      obtain ⟨dxf, lsf, Df, f1, f2, f3, fn1, fn2, fn3, f4⟩ := id Ff.ex
      obtain ⟨fw1, fw2, fw3⟩ := f4 t hmem
      walk_at "rd"
      refine ⟨xf, dxf, _, rfl, f1, fF_no (by decide +kernel), ?_⟩
      walk_at "rd"
      intro l1 hl1
      have s1 := same_upd (o := .lst [.int (j : Int)]) hl1
      have fw1' := s1 _ _ fw1
      have el1 : upd Hf l1 (.lst [.int (j : Int)]) l1 = some (.lst [.int (j : Int)]) := upd_same
      have f1' := s1 _ _ f1
      generalize upd Hf l1 (.lst [.int (j : Int)]) = Hg at s1 fw1' el1 f1'
      walk_at "rd"
      refine ⟨t.wl, l1, _, _, rfl, rfl, fw1', el1, by rw [List.length_map, ens, sizeLine_eq]; show e.2.length + 1 ≤ _; omega, fun wl2 hwl2 => ?_⟩
      have Fg := Ff.same s1
      have s2 := same_upd (o := .lst (t.ns.map V.int ++ [.int (j : Int)])) hwl2
      have ewl2 : upd Hg wl2 (.lst (t.ns.map V.int ++ [.int (j : Int)])) wl2 = some (.lst ((e.2 ++ [(j : Int)]).map V.int)) := by
        rw [upd_same, List.map_append, ens]
        rfl
      have rz1' : Rp (upd Hg wl2 (.lst (t.ns.map V.int ++ [.int (j : Int)]))) (.ref qs) (stepD xs b rs e.1 j).k.data := by
        rw [Sd.k_d]
        exact (rz1.keep (Tk.of s1)).keep (Tk.of s2)
      generalize upd Hg wl2 (.lst (t.ns.map V.int ++ [.int (j : Int)])) = Hh at s2 ewl2 rz1'
      have Fh := Fg.same s2
      walk_at "rd"
      have hra := rowB_at (f := stepD xs b rs e.1) (hit := hitW none) (lc := min lim 900) (ways := e.2) (L := L1) hjl
      have keys1 := hTL1.keys
      have lts1 := hTL1.len
      refine ⟨H, Hg, xf, qs, wl2, lim, ts1, tk + 1, (stepD xs b rs e.1 j).k, e.2 ++ [(j : Int)], rfl, Fg, hwl2, s2, ewl2, rz1', Sd.k_depth _, by omega, hlim, fun hin H' s' => ?_, fun hin hl H' F' tk' => ?_, fun hin hl d H' hd hd2 s' => ?_⟩
      · rw [keys1] at hin
        have hput : putB (min lim 900) L1 (stepD xs b rs e.1 j) (e.2 ++ [(j : Int)]) = some L1 := if_pos hin
        rw [hput] at hra
        walk_at "rd"
        refine ⟨rfl, ?_⟩
        walk_at "rd"
        refine rd_nn ?_
        walk_at "rd"
        exact ⟨L1, ts1, _, _, _, _, rfl, Fh.same s', hTL1, hL1, hwf1, hmem, hjl, hra.symm.trans hrow⟩
      · rw [keys1] at hin
        by_cases h9 : (L1.length : Int) < min lim 900
        case neg =>
          have hput : putB (min lim 900) L1 (stepD xs b rs e.1 j) (e.2 ++ [(j : Int)]) = none := by
            unfold putB
            rw [if_neg hin, if_neg h9]
          rw [hput] at hra
          have : res = .many := by
            rw [← hb, bfsB_at he, ← hrow, hra]
          exact absurd this (hcap (by omega))
        have hput : putB (min lim 900) L1 (stepD xs b rs e.1 j) (e.2 ++ [(j : Int)]) = some (L1 ++ [(stepD xs b rs e.1 j, e.2 ++ [(j : Int)])]) := by
          unfold putB
          rw [if_neg hin, if_pos h9]
        rw [hput] at hra
        walk_at "rd"
        refine ⟨rfl, ?_⟩
        walk_at "rd"
        refine rd_nn ?_
        walk_at "rd"
        refine ⟨_, _, _, _, _, _, rfl, F', hTL1.snoc rfl, by rw [List.length_append]; show ((L1.length + 1 : Nat) : Int) ≤ _; omega, fun e' he' => ?_, List.mem_append_left _ hmem, hjl, hra.symm.trans hrow⟩
        rcases List.mem_append.mp he' with h | h
        · exact hwf1 e' h
        · rw [List.mem_singleton.mp h]
          refine ⟨wfs, ?_⟩
          show (e.2 ++ [(j : Int)]).length ≤ tk + 1
          rw [List.length_append]
          show e.2.length + 1 ≤ tk + 1
          omega
      · rw [keys1] at hin
        have hput : putB (min lim 900) L1 (stepD xs b rs e.1 j) (e.2 ++ [(j : Int)]) = none := by
          unfold putB
          rw [if_neg hin, if_neg (by omega)]
        rw [hput] at hra
        have hmany : res = .many := by
          rw [← hb, bfsB_at he, ← hrow, hra]
        exact k3 hmany d H' ((Fh.sm).free hd) hd2 (Fh.sm.trans s')
    rintro σ2 Hd ⟨L1, ts1, c8, c9, c10, c11, rfl, Fd, hTL1, hL1, hwf1, hmem, hjm, hrow⟩
    rw [lms, List.drop_eq_nil_of_le (by rw [List.length_range]; exact Nat.le_refl _)] at hrow
    refine ⟨i, Nat.lt_succ_self i, tk + 1, L1, ts1, _, _, _, _, _, _, rfl, Fd, hTL1, hL1, hwf1, by omega, ?_⟩
    rw [← hb, bfsB_at he, ← hrow]
    rfl
end
open PySem PySem.Spec L2
section
variable {P : Program} {w : World} {K : PySem.W.Frag} {mg : Str → Option Value} {base : Heap}
theorem rowB_nohit {f : Nat → Sd} {hit : Sd → Bool} {lc : Int} {ways : List Int} (hh : ∀ s, hit s = false) : ∀ (js : List Nat) (L L' : Ln) (w : List Int), rowB f hit lc ways js L ≠ .hit L' w
  | [], L, L', w => fun h => by cases h
  | j :: js, L, L', w => by
    show (match putB lc L (f j) (ways ++ [(j : Int)]) with | none => BR.many | some L' => _) ≠ _
    cases putB lc L (f j) (ways ++ [(j : Int)]) with
    | none => exact fun h => by cases h
    | some L2 =>
      dsimp only
      rw [if_neg (by rw [hh]; decide)]
      exact rowB_nohit hh js L2 L' w
theorem bfsB_nohit {f : Sd → Nat → Sd} {hit : Sd → Bool} {lc : Int} {m : Nat} (hh : ∀ s, hit s = false) : ∀ (n tk : Nat) (L L' : Ln) (w : List Int), bfsB f hit lc m n tk L ≠ .hit L' w
  | 0, _, _, _, _ => fun h => by cases h
  | n + 1, tk, L, L', w => by
    cases he : L[tk]? with
    | none =>
      rw [bfsB_end he]
      exact fun h => by cases h
    | some e =>
      rw [bfsB_at he]
      cases hr : rowB (f e.1) hit lc e.2 (List.range m) L with
      | many => exact fun h => by cases h
      | hit L2 w2 => exact absurd hr (rowB_nohit hh _ _ _ _)
      | run L2 => exact bfsB_nohit hh n (tk + 1) L2 L' w
theorem bfs0_nohit {f : Sd → Nat → Sd} {lc : Int} {m : Nat} {s : Sd} (L' : Ln) (w : List Int) : bfs0 f (hitW none) lc m s ≠ .hit L' w := by
  unfold bfs0
  rw [if_neg (fun z => nomatch z)]
  exact bfsB_nohit (fun _ => rfl) _ _ _ _ _
/-- the search without a wish -/
abbrev bfN (xs : List Sg) (b : Int) (rs : List Rw) (lim : Int) (sd : Sd) : BR := bfs0 (stepD xs b rs) (hitW none) (min lim 900) rs.length sd
def spStands (C TM : Addr) : Sp := fun vs H Q E => ∃ (x q M : Addr) (us ms : List V) (xs : List Sg) (b : Int) (sd : Sd) (rs : List Rw) (lim : Int), vs = [.ref x, .ref q, .ref M, .int lim] ∧ Mch C H x us xs b ∧ Rp H (.ref q) sd.d ∧ WF xs (initR sd) ∧ H M = some (.lst ms) ∧ RpAll H ms (rs.map Rw.d) ∧ (∀ r ∈ rs, RwForm r ∧ rowFits r (xs.length : Int) = true) ∧ rs.length ≤ 900 ∧
  1 ≤ lim ∧ lim.natAbs.log2 < 1920 ∧ (900 < lim → bfN xs b rs lim sd ≠ .many) ∧
  (∀ L, bfN xs b rs lim sd = .run L → ∀ (ls : Addr) (qs : List V) (H' : Hp), H' ls = some (.lst qs) → RpAll H' qs (L.map fun e => e.1.d) → H ls = none → Same H H' → Q (.ref ls) H') ∧
  (bfN xs b rs lim sd = .many → ∀ (d : Addr) (H' : Hp), H d = none → H' d = some (.xd [("what", .int lim)]) → Same H H' → E (.ref TM) (some d) H')
theorem ok_wishF {f : Addr} {fd : FuncData} (F : Fun K "wish_holds" "wish_holds" s_wish_holds f fd) (hm : mg "wish_holds" = some (.ref f)) : Cal P w K mg base "wish_holds" 1 ["wish", "stand"] (fun _ _ _ _ => False) := by
  refine ⟨f, fd, hm, F.kp, F.binds (ps := ["wish", "stand"]) fun _ _ _ _ _ _ us hl => match us, hl with | [_, _], _ => rfl, ?_⟩
  exact F.ok sc_wish_holds (fun vs H Q E h => h.elim) (fun cdv A outer s H vs Q E hr h => h.elim)
theorem ok_stands {f C CI TM : Addr} {fd : FuncData} (B : BT mg) (F : FunD K "stands" "stands" (defArgs s_stands) (defBody s_stands) (defScope s_stands) [] [("limit", .int 400)] f fd)
    (C_refuse_faulty : Cal P w K mg base "refuse_faulty" 5 ["machine", "deeds"] (spRefuse C)) (C_search : CalX P w K mg base "search" 11 ["machine", "stand", "menu", "wish", "limit"] (spSearch C CI TM)) :
    FnOk P w K mg base (L2.CX P w) 12 f fd ["machine", "stand", "menu", "limit"] (spStands C TM) := by
  refine F.ok sc_stands (fun vs H Q E h => ?_) (fun cdv A outer s H vs Q E hr h => ?_)
  · obtain ⟨x, q, M, us, ms, xs, b, sd, rs, lim, rfl, _⟩ := h
    rfl
  · obtain ⟨x, q, M, us, ms, xs, b, sd, rs, lim, rfl, Mc, rq, wf, hM, rms, hrs, n9, lim1, hlim, hcap, k1, k2⟩ := h
    refine ⟨_, (pss_cons (ps_expr (pe_cal C_refuse_faulty (hr.mono (by omega)) rfl (pa_cons (pv 0) (pa_cons (pv 2) pa_nil))))
 (pss_cons (ps_asg (pe_calS C_search (takes_of rfl rfl rfl rfl) (hr.mono (by omega)) rfl (pa_cons (pv 0) (pa_cons (pv 1) (pa_cons (pv 2) (pa_cons pe_non (pa_cons (pv 3) pa_nil)))))) (pg_tup (by rfl) (pgs_cons (pg_name (i := 4) sc_stands.nd rfl (Or.inl rfl)) (pgs_cons (pg_name (i := 5) sc_stands.nd rfl (Or.inl rfl)) pgs_nil))))
 (pss_one (ps_ret (pv 4))))), ?_⟩
    walk_at "rds"
    refine ⟨x, M, us, xs, b, ms, rs, rfl, Mc.at_, by rw [Mc.rp.length, List.length_map], Mc.l8, hM, rms, hrs, fun H1 s1 => ?_⟩
    have Mc1 : Mch C H1 x us xs b := ⟨Mc.at_.same s1, Mc.rp.keep (Tk.of s1), Mc.l8, Mc.b2, Mc.ok⟩
    walk_at "rd"
    refine ⟨x, q, M, us, ms, xs, b, sd, rs, .non, none, lim, rfl, Mc1, rq.keep (Tk.of s1), wf, s1 _ _ hM, rms.keep (Tk.of s1), hrs, n9, .non, rfl, lim1, hlim, hcap, fun L hL p ls qs H2 hp hls rqs nls s2 => ?_, fun L w hL => absurd hL (bfs0_nohit L w), fun hm d H2 hd hd2 s2 => k2 hm d H2 (s1.free hd) hd2 (s1.trans s2)⟩
    walk_at "rd"
    exact k1 L hL ls qs H2 hls rqs (s1.free nls) (s1.trans s2)
end
open PySem PySem.Spec L2
section
variable {P : Program} {w : World} {K : PySem.W.Frag} {mg : Str → Option Value} {base : Heap}
def spPaper (C TM : Addr) : Sp := fun vs H Q E => ∃ (x q M : Addr) (us ms : List V) (xs : List Sg) (b : Int) (sd : Sd) (rs : List Rw) (wv : V) (wg wp : Int) (wx : Wd) (lim : Int), vs = [.ref x, .ref q, .ref M, wv, .int lim] ∧ Mch C H x us xs b ∧ Rp H (.ref q) sd.d ∧ GW xs b sd ∧ H M = some (.lst ms) ∧ RpAll H ms (rs.map Rw.d) ∧ (∀ r ∈ rs, RwForm r ∧ rowFits r (xs.length : Int) = true) ∧ rs.length ≤ 900 ∧
  Rp H wv (wishD (some (wg, wp, wx))) ∧ 0 ≤ wg ∧ wg < (xs.length : Int) ∧ 0 ≤ wp ∧ wp < ((sgAt xs wg).ws.length : Int) ∧ 1 ≤ lim ∧ lim.natAbs.log2 < 1920 ∧ (900 < lim → bfs0 (stepD xs b rs) (hitW (some (wg, wp, wx))) (min lim 900) rs.length sd ≠ .many) ∧
  (∀ L, bfs0 (stepD xs b rs) (hitW (some (wg, wp, wx))) (min lim 900) rs.length sd = .run L → ∀ (ls : Addr) (qs : List V) (H' : Hp), H' ls = some (.lst qs) → RpAll H' qs (L.map fun e => e.1.d) → H ls = none → Same H H' → Q (.ref ls) H') ∧
  (∀ L w, bfs0 (stepD xs b rs) (hitW (some (wg, wp, wx))) (min lim 900) rs.length sd = .hit L w → ∀ (H' : Hp), Same H H' → Q .non H') ∧
  (bfs0 (stepD xs b rs) (hitW (some (wg, wp, wx))) (min lim 900) rs.length sd = .many → ∀ (d : Addr) (H' : Hp), H d = none → H' d = some (.xd [("what", .int lim)]) → Same H H' → E (.ref TM) (some d) H')
theorem ok_paper {f C CI TM : Addr} {fd : FuncData} (B : BT mg) (F : FunD K "paper" "paper" (defArgs s_paper) (defBody s_paper) (defScope s_paper) [] [("limit", .int 400)] f fd)
    (C_refuse_faulty : Cal P w K mg base "refuse_faulty" 5 ["machine", "deeds"] (spRefuse C)) (C_refuse_wish : Cal P w K mg base "refuse_wish" 4 ["machine", "wish"] (spRefWish C)) (C_search : CalX P w K mg base "search" 11 ["machine", "stand", "menu", "wish", "limit"] (spSearchW C CI TM)) :
    FnOk P w K mg base (L2.CX P w) 12 f fd ["machine", "stand", "menu", "wish", "limit"] (spPaper C TM) := by
  refine F.ok sc_paper (fun vs H Q E h => ?_) (fun cdv A outer s H vs Q E hr h => ?_)
  · obtain ⟨x, q, M, us, ms, xs, b, sd, rs, wv, wg, wp, wx, lim, rfl, _⟩ := h
    rfl
  · obtain ⟨x, q, M, us, ms, xs, b, sd, rs, wv, wg, wp, wx, lim, rfl, Mc, rq, gw, hM, rms, hrs, n9, rwv, wg0, wgN, wp0, wpN, lim1, hlim, hcap, k1, k2, k3⟩ := h
    refine ⟨_, (pss_cons (ps_expr (pe_cal C_refuse_faulty (hr.mono (by omega)) rfl (pa_cons (pv 0) (pa_cons (pv 2) pa_nil))))
 (pss_cons (ps_expr (pe_cal C_refuse_wish (hr.mono (by omega)) rfl (pa_cons (pv 0) (pa_cons (pv 3) pa_nil))))
 (pss_cons (ps_asg (pe_calS C_search (takes_of rfl rfl rfl rfl) (hr.mono (by omega)) rfl (pa_cons (pv 0) (pa_cons (pv 1) (pa_cons (pv 2) (pa_cons (pv 3) (pa_cons (pv 4) pa_nil)))))) (pg_tup (by rfl) (pgs_cons (pg_name (i := 5) sc_paper.nd rfl (Or.inl rfl)) (pgs_cons (pg_name (i := 6) sc_paper.nd rfl (Or.inl rfl)) pgs_nil))))
 (pss_one (ps_ret (pe_ifExp (pt_cmpR op_isN (pv 6) pe_non (nomark _)) (pv 5) pe_non)))))), ?_⟩
    walk_at "rds"
    refine ⟨x, M, us, xs, b, ms, rs, rfl, Mc.at_, by rw [Mc.rp.length, List.length_map], Mc.l8, hM, rms, hrs, fun H1 s1 => ?_⟩
    have Mc1 : Mch C H1 x us xs b := ⟨Mc.at_.same s1, Mc.rp.keep (Tk.of s1), Mc.l8, Mc.b2, Mc.ok⟩
    walk_at "rd"
    refine ⟨x, us, xs, b, wv, wg, wp, wx, rfl, Mc1, rwv.keep (Tk.of s1), wg0, wgN, wp0, wpN, fun H2 s2 => ?_⟩
    have s12 := s1.trans s2
    have Mc2 : Mch C H2 x us xs b := ⟨Mc.at_.same s12, Mc.rp.keep (Tk.of s12), Mc.l8, Mc.b2, Mc.ok⟩
    walk_at "rd"
    refine ⟨x, q, M, us, ms, xs, b, sd, rs, wv, wg, wp, wx, lim, rfl, Mc2, rq.keep (Tk.of s12), gw, s12 _ _ hM, rms.keep (Tk.of s12), hrs, n9, rwv.keep (Tk.of s12), wg0, wgN, wp0, wpN, lim1, hlim, hcap, fun L hL p ls qs H3 hp hls rqs nls s3 => ?_, fun L w hL p ls wl qs H3 hp hls rqs nls hwl nwl s3 => ?_, fun hm d H3 hd hd2 s3 => ?_⟩
    · walk_at "rd"
      refine rd_tif ?_
      walk_at "rd"
      refine ⟨rfl, _, rfl, ?_⟩
      refine rd_ifT rfl ?_
      walk_at "rd"
      exact k1 L hL ls qs H3 hls rqs (s12.free nls) (s12.trans s3)
    · walk_at "rd"
      refine rd_tif ?_
      walk_at "rd"
      refine ⟨rfl, _, rfl, ?_⟩
      refine rd_ifF (fun z => nomatch z) ?_
      walk_at "rd"
      exact k2 L w hL H3 (s12.trans s3)
    · exact k3 hm d H3 (s12.free hd) hd2 (s12.trans s3)
end
open PySem PySem.Spec L2
section
variable {P : Program} {w : World} {K : PySem.W.Frag} {mg : Str → Option Value} {base : Heap}
def spSearchP (C CI TM : Addr) : Sp := fun vs H Q E => ∃ (x y q M : Addr) (us us' ms : List V) (xs ys : List Sg) (b : Int) (p0 : Pr) (rs : List Rw) (lim : Int), vs = [.ref x, .ref y, .ref q, .ref M, .int lim] ∧ Mch C H x us xs b ∧ Mch C H y us' ys b ∧ Twins xs ys ∧ Rp H (.ref q) (Pr.d p0) ∧ GP xs ys b p0 ∧ H M = some (.lst ms) ∧ RpAll H ms (rs.map Rw.d) ∧ (∀ r ∈ rs, RwForm r ∧ rowFits r (xs.length : Int) = true) ∧ rs.length ≤ 900 ∧ 1 ≤ lim ∧ lim.natAbs.log2 < 1920 ∧ (900 < lim → ∀ L, bfsP0 (stepP xs ys b rs) (partP xs ys b rs) (seeP xs ys) (min lim 900) rs.length p0 ≠ .many L) ∧
  (∀ L, bfsP0 (stepP xs ys b rs) (partP xs ys b rs) (seeP xs ys) (min lim 900) rs.length p0 = .run L → ∀ (p ls : Addr) (qs : List V) (H' : Hp), H' p = some (.tup [.ref ls, .non]) → H' ls = some (.lst qs) → RpAll H' qs (L.map fun e => Pr.d e.1) → H ls = none → Same H H' → Q (.ref p) H') ∧
  (∀ L w, bfsP0 (stepP xs ys b rs) (partP xs ys b rs) (seeP xs ys) (min lim 900) rs.length p0 = .part L w → ∀ (p ls wl : Addr) (H' : Hp), H' p = some (.tup [.ref ls, .ref wl]) → H' wl = some (.lst (w.map V.int)) → H wl = none → Same H H' → Q (.ref p) H') ∧
  (∀ L, bfsP0 (stepP xs ys b rs) (partP xs ys b rs) (seeP xs ys) (min lim 900) rs.length p0 = .many L → ∀ (d : Addr) (H' : Hp), H d = none → H' d = some (.xd [("what", .int lim)]) → Same H H' → E (.ref TM) (some d) H')
theorem ok_searchP {f fI C CI TM : Addr} {fd fdI : FuncData} (B : BT mg) (T : FiC K mg CI) (F : Fun K "search_pairs" "search_pairs" s_search_pairs f fd) (hm : mg "search_pairs" = some (.ref f)) (MkF : Mk K CI fI) (F_finit : FnOk P w K mg base CX0 1 fI fdI ["self", "start", "limit"] (spFInit P w CI)) (bFI : Binds K fdI ["self", "start", "limit"] [])
    (M_more : Mth P w K mg base CI "more" 1 ["self"] (spMore P w CI)) (M_take : Mth P w K mg base CI "take" 1 ["self"] (spTake P w CI)) (M_put : MthR P w K mg base CI "put" 4 ["self", "thing", "way"] (spPut P w CI TM))
    (C_seen_alike : Cal P w K mg base "seen_alike" 3 ["one", "other", "pair"] (spSeeAlike C)) (C_pair_behind : Cal P w K mg base "pair_behind" 11 ["one", "other", "pair", "deed"] (spBehind C)) :
    CalX P w K mg base "search_pairs" 12 ["one", "other", "pair", "menu", "limit"] (spSearchP C CI TM) := by
  refine ⟨f, fd, hm, F.kp, F.binds (ps := ["one", "other", "pair", "menu", "limit"]) fun _ _ _ _ _ _ us hl => match us, hl with | [_, _, _, _, _], _ => rfl, ?_⟩
  refine F.okX sc_search_pairs (fun vs H Q E h => ?_) (fun cdv A outer s H vs Q E hr h => ?_)
  · obtain ⟨x, y, q, M, us, us', ms, xs, ys, b, p0, rs, lim, rfl, _⟩ := h
    rfl
  · obtain ⟨x, y, q, M, us, us', ms, xs, ys, b, p0, rs, lim, rfl, Mx, My, tw, rq, gp, hM, rms, hrs, n9, lim1, hlim, hcap, k1, k2, k3⟩ := h
    refine ⟨_, (pss_cons (ps_set (i := 5) sc_search_pairs.nd rfl (Or.inl rfl) (pe_make MkF F_finit (hr.mono (by omega)) rfl T.mgC bFI .nil pass0 (pa_cons (pv 2) (pa_cons (pv 4) pa_nil))))
 (pss_cons (ps_if (pt_not (pt_val (pe_cal C_seen_alike (hr.mono (by omega)) rfl (pa_cons (pv 0) (pa_cons (pv 1) (pa_cons (pv 2) pa_nil)))))) (pss_one (ps_ret (pe_tup (pa_cons (pe_fldK (K := K) (pv 5) rfl) (pa_cons (pe_lst pa_nil) pa_nil))))) pss_nil)
 (pss_cons (ps_while (passes_of rfl) (pt_val (pe_mth0 M_more T.cl (hr.mono (by omega)) (pv 5))) (pss_cons (ps_asg (pe_mth0 M_take T.cl (hr.mono (by omega)) (pv 5)) (pg_tup (by rfl) (pgs_cons (pg_name (i := 6) sc_search_pairs.nd rfl (Or.inl rfl)) (pgs_cons (pg_name (i := 7) sc_search_pairs.nd rfl (Or.inl rfl)) pgs_nil))))
 (pss_one (ps_for (passes_of rfl) rfl (pi_enum rfl B.g_enumerate (pa_cons (pv 3) pa_nil)) (pg_tup (by rfl) (pgs_cons (pg_name (i := 8) sc_search_pairs.nd rfl (Or.inl rfl)) (pgs_cons (pg_name (i := 9) sc_search_pairs.nd rfl (Or.inl rfl)) pgs_nil)))
 (pss_cons (ps_set (i := 10) sc_search_pairs.nd rfl (Or.inl rfl) (pe_cal C_pair_behind (hr.mono (by omega)) rfl (pa_cons (pv 0) (pa_cons (pv 1) (pa_cons (pv 6) (pa_cons (pv 9) pa_nil))))))
 (pss_cons (ps_if (pt_cmpR op_isN (pv 10) pe_non (nomark _)) (pss_one (ps_ret (pe_tup (pa_cons (pe_fldK (K := K) (pv 5) rfl) (pa_cons (pe_op op_cat (pv 7) (pe_lst (pa_cons (pv 8) pa_nil))) pa_nil))))) pss_nil)
 (pss_one (ps_expr (pe_mthR (E := E) M_put T.cl (hr.mono (by omega)) (takes_of rfl rfl rfl rfl) (pv 5) (pa_cons (pv 10) (pa_cons (pe_op op_cat (pv 7) (pe_lst (pa_cons (pv 8) pa_nil))) pa_nil)))))))))))
 (pss_one (ps_ret (pe_tup (pa_cons (pe_fldK (K := K) (pv 5) rfl) (pa_cons pe_non pa_nil)))))))), ?_⟩
    walk_at "rds"
    intro xf dx hx1 hx2 hne
    have s3 : Same H (upd (upd H dx (.own xf)) xf (.ins CI dx [])) := (same_upd hx2).trans (same_upd (by rw [upd_ne (Ne.symm hne)]; exact hx1))
    have rqk : Rp H (.ref q) (Pr.k p0).data := by rw [Pr.k_d]; exact rq
    refine ⟨H, xf, dx, q, Pr.k p0, lim, rfl, upd_same, hx1, s3, rqk.keep (Tk.of s3), Pr.k_depth p0, fun wl H1 F1 tk1 => ⟨rfl, ?_⟩⟩
    have sm1 := F1.sm
    walk_at "rd"
    refine ⟨x, y, .ref q, us, us', xs, ys, b, p0, rfl, ⟨Mx.at_.same sm1, Mx.rp.keep (Tk.of sm1), Mx.l8, Mx.b2, Mx.ok⟩, ⟨My.at_.same sm1, My.rp.keep (Tk.of sm1), My.l8, My.b2, My.ok⟩, rq.keep (Tk.of sm1), gp, fun H1' s1' => ?_⟩
    have F1' := F1.same s1'
    clear F1
    cases hsee : seeP xs ys p0 with
    | false =>
      have ebf : bfsP0 (stepP xs ys b rs) (partP xs ys b rs) (seeP xs ys) (min lim 900) rs.length p0 = .part [(p0, [])] [] := by
        unfold bfsP0
        exact if_neg (by rw [hsee]; decide)
      obtain ⟨dx1, ls, D, g1, g2, g3, n1, n2, n3, g4⟩ := id F1'.ex
      walk_at "rd"
      refine ⟨xf, CI, dx1, _, _, rfl, g1, T.cl, T.n_things, fF_things, ?_⟩
      walk_at "rd"
      intro l0 hl0
      have sa := same_upd (o := .lst []) hl0
      have e0 : upd H1' l0 (.lst []) l0 = some (.lst []) := upd_same
      generalize upd H1' l0 (.lst []) = H2 at sa e0
      walk_at "rd"
      intro p hp
      have sb := same_upd (o := .tup [.ref ls, .ref l0]) hp
      exact k2 _ _ ebf p ls l0 _ upd_same (sb _ _ e0) (F1'.sm.free hl0) (F1'.sm.trans (sa.trans sb))
    | true =>
    have ebf : bfsP0 (stepP xs ys b rs) (partP xs ys b rs) (seeP xs ys) (min lim 900) rs.length p0 = bfsP (stepP xs ys b rs) (partP xs ys b rs) (min lim 900) rs.length 901 0 [(p0, [])] := by
      unfold bfsP0
      exact if_pos hsee
    rw [ebf] at k1 k2 k3 hcap
    generalize hres : bfsP (stepP xs ys b rs) (partP xs ys b rs) (min lim 900) rs.length 901 0 [(p0, [])] = res at k1 k2 k3 hcap
    walk_at "rd"
    refine ⟨fun i σ' H' => ∃ (tk : Nat) (L : LnP) (ts : List Th) (c6 c7 c8 c9 c10 : Option V), σ' = [some (.ref x), some (.ref y), some (.ref q), some (.ref M), some (.int lim), some (.ref xf), c6, c7, c8, c9, c10] ∧ FAt P w CI H H' xf lim ts tk ∧ TLP ts L ∧ (L.length : Int) ≤ min lim 900 ∧ (∀ e ∈ L, GP xs ys b e.1 ∧ e.2.length ≤ tk) ∧ i + tk = 901 ∧ bfsP (stepP xs ys b rs) (partP xs ys b rs) (min lim 900) rs.length i tk L = res,
      ⟨901, 0, [(p0, [])], [⟨Pr.k p0, q, wl, []⟩], _, _, _, _, _, rfl, F1', rfl, (by show (1 : Int) ≤ min lim 900; omega), fun e he => by rw [List.mem_singleton.mp he]; exact ⟨gp, Nat.le_refl _⟩, rfl, hres⟩, ?_⟩
    rintro i σ1 Ha ⟨tk, L, ts, c6, c7, c8, c9, c10, rfl, Fa, hTL, hL9, hwf, hit, hb⟩
    obtain ⟨dx1, ls, D, g1, g2, g3, n1, n2, n3, g4⟩ := id Fa.ex
    have lts := hTL.len
    have sa := Fa.sm
    walk_at "rd"
    refine ⟨xf, dx1, _, rfl, g1, fF_noW (by decide +kernel), ?_⟩
    walk_at "rd"
    refine ⟨H, xf, lim, ts, tk, rfl, Fa, fun Hb sb => ?_⟩
    have Fb := Fa.same sb
    have g1b := sb _ _ g1
    walk_at "rd"
    refine rd_ifd (fun hlt => ?_) (fun hlt => ?_)
    case refine_2 =>
      have eres : res = .run L := by
        rw [← hb]
        exact bfsP_end (List.getElem?_eq_none (by omega))
      walk_at "rd"
      refine ⟨xf, CI, dx1, _, _, rfl, g1b, T.cl, T.n_things, fF_things, ?_⟩
      walk_at "rd"
      intro p hp
      have s3 := same_upd (o := .tup [.ref ls, .non]) hp
      exact k1 L eres p ls _ _ upd_same (s3 _ _ (sb _ _ g2)) ((hTL.rp fun t ht => ⟨((Fa.ks t ht).1.keep (Tk.of sb)).keep (Tk.of s3), (Fa.ks t ht).2⟩)) n2 (sa.trans (sb.trans s3))
    show ∃ N : L2.St → Hp → Prop, _
    refine ⟨_, fun σ' H' h => h, ?_⟩
    obtain ⟨e, he⟩ : ∃ e, L[tk]? = some e := ⟨_, List.getElem?_eq_getElem (show tk < L.length by omega)⟩
    obtain ⟨t, ht, etk, ens⟩ := hTL.get he
    obtain ⟨i, rfl⟩ : ∃ i', i = i' + 1 := ⟨i - 1, by omega⟩
    walk_at "rd"
    refine ⟨xf, dx1, _, rfl, g1b, fF_noW (by decide +kernel), ?_⟩
    walk_at "rd"
    refine ⟨H, xf, lim, ts, tk, t, rfl, Fb, ht, fun pt Hc hpt Fc tkc => ?_⟩
    have sc := Fc.sm
    walk_at "rd"
    refine ⟨M, ms, rfl, SqL.of (sc _ _ hM), ?_⟩
    have lms : ms.length = rs.length := by rw [rms.length, List.length_map]
    obtain ⟨egp, ewl⟩ := hwf e (List.mem_of_getElem? he)
    refine for_inv walk_enum (fun j σ' H' => ∃ (L' : LnP) (ts' : List Th) (c8 c9 c10 : Option V), σ' = [some (.ref x), some (.ref y), some (.ref q), some (.ref M), some (.int lim), some (.ref xf), some (.ref t.q), some (.ref t.wl), c8, c9, c10] ∧ FAt P w CI H H' xf lim ts' (tk + 1) ∧ TLP ts' L' ∧ (L'.length : Int) ≤ min lim 900 ∧ (∀ e ∈ L', GP xs ys b e.1 ∧ e.2.length ≤ tk + 1) ∧ t ∈ ts' ∧ j ≤ rs.length ∧ rowP (stepP xs ys b rs e.1) (partP xs ys b rs e.1) (min lim 900) e.2 ((List.range rs.length).drop j) L' = rowP (stepP xs ys b rs e.1) (partP xs ys b rs e.1) (min lim 900) e.2 (List.range rs.length) L)
      ⟨L, ts, _, _, _, rfl, Fc, hTL, hL9, fun e he => ⟨(hwf e he).1, by have := (hwf e he).2; omega⟩, List.mem_of_getElem? ht, Nat.zero_le _, rfl⟩ (fun j σ' H' _ p => by obtain ⟨_, _, _, _, _, _, p, _⟩ := p; exact SqL.of (p.sm _ _ hM)) ?_ ?_
    · rintro B' j v0 σ2 Hd He hj ⟨L1, ts1, c8, c9, c10, rfl, Fd, hTL1, hL1, hwf1, hmem, hjm, hrow⟩ ⟨T', y', z, rfl, hT, rfl, ey, ez⟩
      cases ey
      have hjl : j < rs.length := by have := (List.getElem?_eq_some_iff.mp ez).1; omega
      have sT := same_upd (o := .tup [.int (j : Int), z]) hT
      have Fe := Fd.same sT
      have se := Fe.sm
      have rte : Rp (upd Hd T' (.tup [.int (j : Int), z])) (.ref t.q) (Pr.d e.1) := by
        have := (Fe.ks t hmem).1
        rw [etk, Pr.k_d] at this
        exact this
      have hra := rowP_at (f := stepP xs ys b rs e.1) (pt := partP xs ys b rs e.1) (lc := min lim 900) (ways := e.2) (L := L1) hjl
      walk_at "rd"
      refine ⟨x, y, .ref t.q, z, us, us', ms, xs, ys, b, e.1, rs, j, rfl, ⟨Mx.at_.same se, Mx.rp.keep (Tk.of se), Mx.l8, Mx.b2, Mx.ok⟩, ⟨My.at_.same se, My.rp.keep (Tk.of se), My.l8, My.b2, My.ok⟩, tw, rte, egp, rms.keep (Tk.of se), hrs, hjl, ez, fun hpt Hf sf => ?_, fun hpt qs Hf rqs wfs sf => ?_⟩
      · rw [if_pos hpt] at hra
        have hres2 : res = .part L1 (e.2 ++ [(j : Int)]) := by
          rw [← hb, bfsP_at he, ← hrow, hra]
        have Fw := Fe.same sf
        obtain ⟨dxw, lsw, Dw, y1, y2, y3, m1, m2, m3, y4⟩ := id Fw.ex
        obtain ⟨z1', z2', z3'⟩ := y4 t hmem
        walk_at "rd"
        refine ⟨rfl, ?_⟩
        walk_at "rd"
        refine rd_ifT rfl ?_
        walk_at "rd"
        refine ⟨xf, CI, dxw, _, _, rfl, y1, T.cl, T.n_things, fF_things, ?_⟩
        walk_at "rd"
        intro l2 hl2
        have sl := same_upd (o := .lst [.int (j : Int)]) hl2
        have el2 : upd Hf l2 (.lst [.int (j : Int)]) l2 = some (.lst [.int (j : Int)]) := upd_same
        have zw := sl _ _ z1'
        have Fl := Fw.same sl
        have y2l := sl _ _ y2
        generalize upd Hf l2 (.lst [.int (j : Int)]) = Hl at sl el2 zw Fl y2l
        refine ⟨t.wl, l2, _, _, rfl, rfl, zw, el2, by rw [List.length_map, ens, sizeLine_eq]; show e.2.length + 1 ≤ _; omega, fun wl3 hwl3 => ?_⟩
        have sm := same_upd (o := .lst (t.ns.map V.int ++ [.int (j : Int)])) hwl3
        have ewl3 : upd Hl wl3 (.lst (t.ns.map V.int ++ [.int (j : Int)])) wl3 = some (.lst ((e.2 ++ [(j : Int)]).map V.int)) := by
          rw [upd_same, List.map_append, ens]
          rfl
        have Fm := Fl.same sm
        have nwl3 := Fl.sm.free hwl3
        generalize upd Hl wl3 (.lst (t.ns.map V.int ++ [.int (j : Int)])) = Hm at sm ewl3 Fm
        walk_at "rd"
        intro pp hpp
        have sp := same_upd (o := .tup [.ref lsw, .ref wl3]) hpp
        have Fp := Fm.same sp
        exact k2 _ _ hres2 pp lsw wl3 _ upd_same (sp _ _ ewl3) nwl3 Fp.sm
      rw [if_neg (by rw [hpt]; decide)] at hra
      have Ff := Fe.same sf
      obtain ⟨dxf, lsf, Df, f1, f2, f3, fn1, fn2, fn3, f4⟩ := id Ff.ex
      obtain ⟨fw1, fw2, fw3⟩ := f4 t hmem
      walk_at "rd"
      refine ⟨rfl, ?_⟩
      walk_at "rd"
      refine rd_ifF (fun z => nomatch z) ?_
      walk_at "rd"
      refine ⟨xf, dxf, _, rfl, f1, fF_noW (by decide +kernel), ?_⟩
      walk_at "rd"
      intro l1 hl1
      have s1 := same_upd (o := .lst [.int (j : Int)]) hl1
      have fw1' := s1 _ _ fw1
      have el1 : upd Hf l1 (.lst [.int (j : Int)]) l1 = some (.lst [.int (j : Int)]) := upd_same
      have f1' := s1 _ _ f1
      generalize upd Hf l1 (.lst [.int (j : Int)]) = Hg at s1 fw1' el1 f1'
      walk_at "rd"
      refine ⟨t.wl, l1, _, _, rfl, rfl, fw1', el1, by rw [List.length_map, ens, sizeLine_eq]; show e.2.length + 1 ≤ _; omega, fun wl2 hwl2 => ?_⟩
      have Fg := Ff.same s1
      have s2 := same_upd (o := .lst (t.ns.map V.int ++ [.int (j : Int)])) hwl2
      have ewl2 : upd Hg wl2 (.lst (t.ns.map V.int ++ [.int (j : Int)])) wl2 = some (.lst ((e.2 ++ [(j : Int)]).map V.int)) := by
        rw [upd_same, List.map_append, ens]
        rfl
      have rz1' : Rp (upd Hg wl2 (.lst (t.ns.map V.int ++ [.int (j : Int)]))) (.ref qs) (Pr.k (stepP xs ys b rs e.1 j)).data := by
        rw [Pr.k_d]
        exact (rqs.keep (Tk.of s1)).keep (Tk.of s2)
      generalize upd Hg wl2 (.lst (t.ns.map V.int ++ [.int (j : Int)])) = Hh at s2 ewl2 rz1'
      have Fh := Fg.same s2
      walk_at "rd"
      have keys1 := hTL1.keys
      have lts1 := hTL1.len
      refine ⟨H, Hg, xf, qs, wl2, lim, ts1, tk + 1, Pr.k (stepP xs ys b rs e.1 j), e.2 ++ [(j : Int)], rfl, Fg, hwl2, s2, ewl2, rz1', Pr.k_depth _, by omega, hlim, fun hin H' s' => ?_, fun hin hl H' F' tk' => ?_, fun hin hl d H' hd hd2 s' => ?_⟩
      · rw [keys1] at hin
        have hput : putP (min lim 900) L1 (stepP xs ys b rs e.1 j) (e.2 ++ [(j : Int)]) = some L1 := if_pos hin
        rw [hput] at hra
        walk_at "rd"
        exact ⟨L1, ts1, _, _, _, rfl, Fh.same s', hTL1, hL1, hwf1, hmem, hjl, hra.symm.trans hrow⟩
      · rw [keys1] at hin
        by_cases h9 : (L1.length : Int) < min lim 900
        case neg =>
          have hput : putP (min lim 900) L1 (stepP xs ys b rs e.1 j) (e.2 ++ [(j : Int)]) = none := by
            unfold putP
            rw [if_neg hin, if_neg h9]
          rw [hput] at hra
          have : res = .many L1 := by
            rw [← hb, bfsP_at he, ← hrow, hra]
          exact absurd this (hcap (by omega) L1)
        have hput : putP (min lim 900) L1 (stepP xs ys b rs e.1 j) (e.2 ++ [(j : Int)]) = some (L1 ++ [(stepP xs ys b rs e.1 j, e.2 ++ [(j : Int)])]) := by
          unfold putP
          rw [if_neg hin, if_pos (by omega)]
        rw [hput] at hra
        walk_at "rd"
        refine ⟨_, _, _, _, _, rfl, F', hTL1.snoc rfl, by rw [List.length_append]; show ((L1.length + 1 : Nat) : Int) ≤ _; omega, fun e' he' => ?_, List.mem_append_left _ hmem, hjl, hra.symm.trans hrow⟩
        rcases List.mem_append.mp he' with h | h
        · exact hwf1 e' h
        · rw [List.mem_singleton.mp h]
          refine ⟨wfs, ?_⟩
          show (e.2 ++ [(j : Int)]).length ≤ tk + 1
          rw [List.length_append]
          show e.2.length + 1 ≤ tk + 1
          omega
      · rw [keys1] at hin
        have hput : putP (min lim 900) L1 (stepP xs ys b rs e.1 j) (e.2 ++ [(j : Int)]) = none := by
          unfold putP
          rw [if_neg hin, if_neg (by omega)]
        rw [hput] at hra
        have hmany : res = .many L1 := by
          rw [← hb, bfsP_at he, ← hrow, hra]
        exact k3 L1 hmany d H' ((Fh.sm).free hd) hd2 (Fh.sm.trans s')
    rintro σ2 Hd ⟨L1, ts1, c8, c9, c10, rfl, Fd, hTL1, hL1, hwf1, hmem, hjm, hrow⟩
    rw [lms, List.drop_eq_nil_of_le (by rw [List.length_range]; exact Nat.le_refl _)] at hrow
    refine ⟨i, Nat.lt_succ_self i, tk + 1, L1, ts1, _, _, _, _, _, rfl, Fd, hTL1, hL1, hwf1, by omega, ?_⟩
    rw [← hb, bfsP_at he, ← hrow]
    rfl
end
open PySem PySem.Spec L2
section
variable {P : Program} {w : World} {K : PySem.W.Frag} {mg : Str → Option Value} {base : Heap}
def spParting (C TM : Addr) : Sp := fun vs H Q E => ∃ (x y q1 q2 M : Addr) (us us' ms : List V) (xs ys : List Sg) (b : Int) (p0 : Pr) (rs : List Rw) (lim : Int), vs = [.ref x, .ref y, .ref q1, .ref q2, .ref M, .int lim] ∧ Mch C H x us xs b ∧ Mch C H y us' ys b ∧ Twins xs ys ∧ Rp H (.ref q1) p0.1.d ∧ Rp H (.ref q2) p0.2.d ∧ p0.1.ring = p0.2.ring ∧ GP xs ys b p0 ∧ H M = some (.lst ms) ∧ RpAll H ms (rs.map Rw.d) ∧ (∀ r ∈ rs, RwForm r ∧ rowFits r (xs.length : Int) = true) ∧ rs.length ≤ 900 ∧ 1 ≤ lim ∧ lim.natAbs.log2 < 1920 ∧ (900 < lim → ∀ L, bfsP0 (stepP xs ys b rs) (partP xs ys b rs) (seeP xs ys) (min lim 900) rs.length p0 ≠ .many L) ∧
  (∀ L, bfsP0 (stepP xs ys b rs) (partP xs ys b rs) (seeP xs ys) (min lim 900) rs.length p0 = .run L → ∀ H', Same H H' → Q .non H') ∧
  (∀ L w, bfsP0 (stepP xs ys b rs) (partP xs ys b rs) (seeP xs ys) (min lim 900) rs.length p0 = .part L w → ∀ (wl : Addr) (H' : Hp), H' wl = some (.lst (w.map V.int)) → H wl = none → Same H H' → Q (.ref wl) H') ∧
  (∀ L, bfsP0 (stepP xs ys b rs) (partP xs ys b rs) (seeP xs ys) (min lim 900) rs.length p0 = .many L → ∀ (d : Addr) (H' : Hp), H d = none → H' d = some (.xd [("what", .int lim)]) → Same H H' → E (.ref TM) (some d) H')
theorem ok_parting {f C CI TM : Addr} {fd : FuncData} (B : BT mg) (F : FunD K "parting" "parting" (defArgs s_parting) (defBody s_parting) (defScope s_parting) [] [("limit", .int 400)] f fd)
    (C_refuse_pair : Cal P w K mg base "refuse_pair" 6 ["one", "other", "stand", "other_stand", "menu"] (spRefPair C)) (C_search : CalX P w K mg base "search_pairs" 12 ["one", "other", "pair", "menu", "limit"] (spSearchP C CI TM)) :
    FnOk P w K mg base (L2.CX P w) 13 f fd ["one", "other", "stand", "other_stand", "menu", "limit"] (spParting C TM) := by
  refine F.ok sc_parting (fun vs H Q E h => ?_) (fun cdv A outer s H vs Q E hr h => ?_)
  · obtain ⟨x, y, q1, q2, M, us, us', ms, xs, ys, b, p0, rs, lim, rfl, _⟩ := h
    rfl
  · obtain ⟨x, y, q1, q2, M, us, us', ms, xs, ys, b, p0, rs, lim, rfl, Mx, My, tw, r1, r2, er, gp, hM, rms, hrs, n9, lim1, hlim, hcap, k1, k2, k3⟩ := h
    refine ⟨_, (pss_cons (ps_expr (pe_cal C_refuse_pair (hr.mono (by omega)) rfl (pa_cons (pv 0) (pa_cons (pv 1) (pa_cons (pv 2) (pa_cons (pv 3) (pa_cons (pv 4) pa_nil)))))))
 (pss_cons (ps_asg (pe_calS C_search (takes_of rfl rfl rfl rfl) (hr.mono (by omega)) rfl (pa_cons (pv 0) (pa_cons (pv 1) (pa_cons (pe_tup (pa_cons (pv 2) (pa_cons (pv 3) pa_nil))) (pa_cons (pv 4) (pa_cons (pv 5) pa_nil)))))) (pg_tup (by rfl) (pgs_cons (pg_name (i := 6) sc_parting.nd rfl (Or.inl rfl)) (pgs_cons (pg_name (i := 7) sc_parting.nd rfl (Or.inl rfl)) pgs_nil))))
 (pss_one (ps_ret (pv 7))))), ?_⟩
    walk_at "rds"
    refine ⟨x, y, M, _, _, us, us', ms, xs, ys, b, p0.1, p0.2, rs, rfl, Mx, My, tw, r1, r2, er, hM, rms, hrs, fun H1 s1 => ?_⟩
    walk_at "rd"
    intro o ho
    have so := same_upd (o := .tup [.ref q1, .ref q2]) ho
    have eo := upd_ofL (o := .tup [.ref q1, .ref q2]) ho
    generalize upd H1 o (.tup [.ref q1, .ref q2]) = H2 at so eo
    have s12 := s1.trans so
    have rp : Rp H2 (.ref o) (Pr.d p0) := .tup eo (.cons (r1.keep (Tk.of s12)) (.cons (r2.keep (Tk.of s12)) .nil))
    walk_at "rd"
    refine ⟨x, y, o, M, us, us', ms, xs, ys, b, p0, rs, lim, rfl, ⟨Mx.at_.same s12, Mx.rp.keep (Tk.of s12), Mx.l8, Mx.b2, Mx.ok⟩, ⟨My.at_.same s12, My.rp.keep (Tk.of s12), My.l8, My.b2, My.ok⟩, tw, rp, gp, s12 _ _ hM, rms.keep (Tk.of s12), hrs, n9, lim1, hlim, hcap, fun L hL p ls qs H3 hp hls rqs nls s3 => ?_, fun L w hL p ls wl H3 hp hwl nwl s3 => ?_, fun L hm d H3 hd hd2 s3 => k3 L hm d H3 (s12.free hd) hd2 (s12.trans s3)⟩
    · walk_at "rd"
      exact k1 L hL H3 (s12.trans s3)
    · walk_at "rd"
      exact k2 L w hL wl H3 hwl (s12.free nwl) (s12.trans s3)
def spAlikeP (C TM : Addr) : Sp := fun vs H Q E => ∃ (x y q1 q2 M : Addr) (us us' ms : List V) (xs ys : List Sg) (b : Int) (p0 : Pr) (rs : List Rw) (lim : Int), vs = [.ref x, .ref y, .ref q1, .ref q2, .ref M, .int lim] ∧ Mch C H x us xs b ∧ Mch C H y us' ys b ∧ Twins xs ys ∧ Rp H (.ref q1) p0.1.d ∧ Rp H (.ref q2) p0.2.d ∧ p0.1.ring = p0.2.ring ∧ GP xs ys b p0 ∧ H M = some (.lst ms) ∧ RpAll H ms (rs.map Rw.d) ∧ (∀ r ∈ rs, RwForm r ∧ rowFits r (xs.length : Int) = true) ∧ rs.length ≤ 900 ∧ 1 ≤ lim ∧ lim.natAbs.log2 < 1920 ∧ (900 < lim → ∀ L, bfsP0 (stepP xs ys b rs) (partP xs ys b rs) (seeP xs ys) (min lim 900) rs.length p0 ≠ .many L) ∧
  (∀ L, bfsP0 (stepP xs ys b rs) (partP xs ys b rs) (seeP xs ys) (min lim 900) rs.length p0 = .run L → ∀ (ls : Addr) (qs : List V) (H' : Hp), H' ls = some (.lst qs) → RpAll H' qs (L.map fun e => Pr.d e.1) → H ls = none → Same H H' → Q (.ref ls) H') ∧
  (∀ L w, bfsP0 (stepP xs ys b rs) (partP xs ys b rs) (seeP xs ys) (min lim 900) rs.length p0 = .part L w → ∀ (H' : Hp), Same H H' → Q .non H') ∧
  (∀ L, bfsP0 (stepP xs ys b rs) (partP xs ys b rs) (seeP xs ys) (min lim 900) rs.length p0 = .many L → ∀ (d : Addr) (H' : Hp), H d = none → H' d = some (.xd [("what", .int lim)]) → Same H H' → E (.ref TM) (some d) H')
theorem ok_alike {f C CI TM : Addr} {fd : FuncData} (B : BT mg) (F : FunD K "alike" "alike" (defArgs s_alike) (defBody s_alike) (defScope s_alike) [] [("limit", .int 400)] f fd)
    (C_refuse_pair : Cal P w K mg base "refuse_pair" 6 ["one", "other", "stand", "other_stand", "menu"] (spRefPair C)) (C_search : CalX P w K mg base "search_pairs" 12 ["one", "other", "pair", "menu", "limit"] (spSearchP C CI TM)) :
    FnOk P w K mg base (L2.CX P w) 13 f fd ["one", "other", "stand", "other_stand", "menu", "limit"] (spAlikeP C TM) := by
  refine F.ok sc_alike (fun vs H Q E h => ?_) (fun cdv A outer s H vs Q E hr h => ?_)
  · obtain ⟨x, y, q1, q2, M, us, us', ms, xs, ys, b, p0, rs, lim, rfl, _⟩ := h
    rfl
  · obtain ⟨x, y, q1, q2, M, us, us', ms, xs, ys, b, p0, rs, lim, rfl, Mx, My, tw, r1, r2, er, gp, hM, rms, hrs, n9, lim1, hlim, hcap, k1, k2, k3⟩ := h
    refine ⟨_, (pss_cons (ps_expr (pe_cal C_refuse_pair (hr.mono (by omega)) rfl (pa_cons (pv 0) (pa_cons (pv 1) (pa_cons (pv 2) (pa_cons (pv 3) (pa_cons (pv 4) pa_nil)))))))
 (pss_cons (ps_asg (pe_calS C_search (takes_of rfl rfl rfl rfl) (hr.mono (by omega)) rfl (pa_cons (pv 0) (pa_cons (pv 1) (pa_cons (pe_tup (pa_cons (pv 2) (pa_cons (pv 3) pa_nil))) (pa_cons (pv 4) (pa_cons (pv 5) pa_nil)))))) (pg_tup (by rfl) (pgs_cons (pg_name (i := 6) sc_alike.nd rfl (Or.inl rfl)) (pgs_cons (pg_name (i := 7) sc_alike.nd rfl (Or.inl rfl)) pgs_nil))))
 (pss_one (ps_ret (pe_ifExp (pt_cmpR op_isN (pv 7) pe_non (nomark _)) (pv 6) pe_non))))), ?_⟩
    walk_at "rds"
    refine ⟨x, y, M, _, _, us, us', ms, xs, ys, b, p0.1, p0.2, rs, rfl, Mx, My, tw, r1, r2, er, hM, rms, hrs, fun H1 s1 => ?_⟩
    walk_at "rd"
    intro o ho
    have so := same_upd (o := .tup [.ref q1, .ref q2]) ho
    have eo := upd_ofL (o := .tup [.ref q1, .ref q2]) ho
    generalize upd H1 o (.tup [.ref q1, .ref q2]) = H2 at so eo
    have s12 := s1.trans so
    have rp : Rp H2 (.ref o) (Pr.d p0) := .tup eo (.cons (r1.keep (Tk.of s12)) (.cons (r2.keep (Tk.of s12)) .nil))
    walk_at "rd"
    refine ⟨x, y, o, M, us, us', ms, xs, ys, b, p0, rs, lim, rfl, ⟨Mx.at_.same s12, Mx.rp.keep (Tk.of s12), Mx.l8, Mx.b2, Mx.ok⟩, ⟨My.at_.same s12, My.rp.keep (Tk.of s12), My.l8, My.b2, My.ok⟩, tw, rp, gp, s12 _ _ hM, rms.keep (Tk.of s12), hrs, n9, lim1, hlim, hcap, fun L hL p ls qs H3 hp hls rqs nls s3 => ?_, fun L w hL p ls wl H3 hp hwl nwl s3 => ?_, fun L hm d H3 hd hd2 s3 => k3 L hm d H3 (s12.free hd) hd2 (s12.trans s3)⟩
    · walk_at "rd"
      refine rd_tif ?_
      walk_at "rd"
      refine ⟨rfl, _, rfl, ?_⟩
      refine rd_ifT rfl ?_
      walk_at "rd"
      exact k1 L hL ls qs H3 hls rqs (s12.free nls) (s12.trans s3)
    · walk_at "rd"
      refine rd_tif ?_
      walk_at "rd"
      refine ⟨rfl, _, rfl, ?_⟩
      refine rd_ifF (fun z => nomatch z) ?_
      walk_at "rd"
      exact k2 L w hL H3 (s12.trans s3)
end
open PySem PySem.Spec L2
section
variable {P : Program} {w : World} {K : PySem.W.Frag} {mg : Str → Option Value} {base : Heap}
structure Z68 (C : Addr) (H : Hp) (x q : Addr) (us : List V) (b : Nat) : Prop where
  mc : Mch C H x us xs68 (b : Int)
  r : Rp H (.ref q) (st68 0).d
  b2 : 2 ≤ b
  b6 : b ≤ 700
theorem Z68.same {C : Addr} {H H' : Hp} {x q : Addr} {us : List V} {b : Nat} (Z : Z68 C H x q us b) (t : Same H H') : Z68 C H' x q us b :=
  ⟨⟨Z.mc.at_.same t, Z.mc.rp.keep (Tk.of t), Z.mc.l8, Z.mc.b2, Z.mc.ok⟩, Z.r.keep (Tk.of t), Z.b2, Z.b6⟩
/-- the menu that adds 1 alone -/
def Mn68 (H : Hp) (M : Addr) : Prop := ∃ m, H M = some (.lst [.ref m]) ∧ H m = some (.tup [.str "add", .int 1])
theorem Mn68.same {H H' : Hp} {M : Addr} (h : Mn68 H M) (t : Same H H') : Mn68 H' M := by
  obtain ⟨m, h1, h2⟩ := h
  exact ⟨m, t _ _ h1, t _ _ h2⟩
theorem Mn68.rp {H : Hp} {m : Addr} (h : H m = some (.tup [.str "add", .int 1])) : RpAll H [.ref m] (rs68.map Rw.d) := .cons (.tup h (.cons (.str _) (.cons (.int _) .nil))) .nil
def tv68 : PyData := wishD (some (0, 0, .num 0))
theorem hit68 (a : Int) : hitW (some (0, 0, .num 0)) (st68 a) = false := by
  show PyData.eqv (Wd.num 1).d (Wd.num 0).d = false
  decide +kernel
theorem hit68_1 : hitW (some (0, 0, .num 1)) (st68 0) = true := by
  show PyData.eqv (Wd.num 1).d (Wd.num 1).d = true
  decide +kernel
def ds68 (b : Nat) : List PyData := (List.range b).map fun i => (st68 ((i : Nat) : Int)).d
def dp68 (b : Nat) : List PyData := (List.range b).map fun i => Pr.d (pr68 i)
theorem ds68_line (b : Nat) : (line68 b).map (fun e => e.1.d) = ds68 b := by unfold line68 ds68; rw [List.map_map]; rfl
theorem dp68_line (b : Nat) : (lineP68 b).map (fun e => Pr.d e.1) = dp68 b := by unfold lineP68 dp68; rw [List.map_map]; rfl
section
variable {C TM x q M : Addr} {H : Hp} {us : List V} {b : Nat} {lim : Int} {Q : VK} {E : XK}
theorem use_st (Z : Z68 C H x q us b) (hm : Mn68 H M) (l1 : 1 ≤ lim) (ll : lim.natAbs.log2 < 1920)
    (kQ : (b : Int) ≤ lim → ∀ (ls : Addr) (qs : List V) (H' : Hp), H' ls = some (.lst qs) → RpAll H' qs (ds68 b) → H ls = none → Same H H' → Q (.ref ls) H')
    (kE : lim < (b : Int) → ∀ (d : Addr) (H' : Hp), H d = none → H' d = some (.xd [("what", .int lim)]) → Same H H' → E (.ref TM) (some d) H') : spStands C TM [.ref x, .ref q, .ref M, .int lim] H Q E := by
  obtain ⟨m, h1, h2⟩ := hm
  have b2 := Z.b2
  have b6 := Z.b6
  have g := gw68 (b := (b : Int)) (a := 0) (by omega) (by decide) (by omega)
  have e : bfN xs68 (b : Int) rs68 lim (st68 0) = if (b : Int) ≤ min lim 900 then .run (line68 b) else .many := bfs0_68 (hit := hitW none) b2 (by omega) (by omega) (fun _ => rfl)
  refine ⟨x, q, M, us, [.ref m], xs68, b, st68 0, rs68, lim, rfl, Z.mc, Z.r, g.1, h1, Mn68.rp h2, rs68_ok, by decide, l1, ll, fun h => ?_, fun L hL ls qs H' hls rqs nls s => ?_, fun hm d H' hd hx s => ?_⟩
  · rw [e, if_pos (by omega)]
    exact fun z => nomatch z
  · rw [e] at hL
    by_cases hb : (b : Int) ≤ lim
    · rw [if_pos (by omega)] at hL
      cases hL
      rw [ds68_line] at rqs
      exact kQ hb ls qs H' hls rqs nls s
    · rw [if_neg (by omega)] at hL; cases hL
  · rw [e] at hm
    by_cases hb : (b : Int) ≤ lim
    · rw [if_pos (by omega)] at hm; cases hm
    · exact kE (by omega) d H' hd hx s
theorem use_wy (Z : Z68 C H x q us b) (hm : Mn68 H M) {tv : V} (rt : Rp H tv tv68) (l1 : 1 ≤ lim) (ll : lim.natAbs.log2 < 1920)
    (kQ : (b : Int) ≤ lim → ∀ (H' : Hp), Same H H' → Q .non H')
    (kE : lim < (b : Int) → ∀ (d : Addr) (H' : Hp), H d = none → H' d = some (.xd [("what", .int lim)]) → Same H H' → E (.ref TM) (some d) H') : spWay C TM [.ref x, .ref q, .ref M, tv, .int lim] H Q E := by
  obtain ⟨m, h1, h2⟩ := hm
  have b2 := Z.b2
  have b6 := Z.b6
  have g := gw68 (b := (b : Int)) (a := 0) (by omega) (by decide) (by omega)
  have e : bfs0 (stepD xs68 (b : Int) rs68) (hitW (some (0, 0, .num 0))) (min lim 900) rs68.length (st68 0) = if (b : Int) ≤ min lim 900 then .run (line68 b) else .many := bfs0_68 b2 (by omega) (by omega) hit68
  refine ⟨x, q, M, us, [.ref m], xs68, b, st68 0, rs68, tv, 0, 0, .num 0, lim, rfl, Z.mc, Z.r, g, h1, Mn68.rp h2, rs68_ok, by decide, rt, by decide, by decide, by decide, by decide, l1, ll, fun h => ?_, fun L hL H' s => ?_, fun L w hL wl H' _ _ s => ?_, fun hm d H' hd hx s => ?_⟩
  · rw [e, if_pos (by omega)]
    exact fun z => nomatch z
  · rw [e] at hL
    by_cases hb : (b : Int) ≤ lim
    · exact kQ hb H' s
    · rw [if_neg (by omega)] at hL; cases hL
  · rw [e] at hL
    by_cases hb : (b : Int) ≤ lim
    · rw [if_pos (by omega)] at hL; cases hL
    · rw [if_neg (by omega)] at hL; cases hL
  · rw [e] at hm
    by_cases hb : (b : Int) ≤ lim
    · rw [if_pos (by omega)] at hm; cases hm
    · exact kE (by omega) d H' hd hx s
theorem use_wy1 (Z : Z68 C H x q us b) (hm : Mn68 H M) {tv : V} (rt : Rp H tv (wishD (some (0, 0, .num 1)))) (l1 : 1 ≤ lim) (l9 : lim ≤ 900)
    (kQ : ∀ (wl : Addr) (H' : Hp), H' wl = some (.lst []) → Same H H' → Q (.ref wl) H') : spWay C TM [.ref x, .ref q, .ref M, tv, .int lim] H Q E := by
  obtain ⟨m, h1, h2⟩ := hm
  have b2 := Z.b2
  have b6 := Z.b6
  have g := gw68 (b := (b : Int)) (a := 0) (by omega) (by decide) (by omega)
  have e : bfs0 (stepD xs68 (b : Int) rs68) (hitW (some (0, 0, .num 1))) (min lim 900) rs68.length (st68 0) = .hit [(st68 0, [])] [] := if_pos hit68_1
  refine ⟨x, q, M, us, [.ref m], xs68, b, st68 0, rs68, tv, 0, 0, .num 1, lim, rfl, Z.mc, Z.r, g, h1, Mn68.rp h2, rs68_ok, by decide, rt, by decide, by decide, by decide, by decide, l1, log_w (by omega), fun h => absurd h (by omega), fun L hL H' s => ?_, fun L w hL wl H' hwl _ s => ?_, fun hm d H' hd hx s => ?_⟩
  · rw [e] at hL; cases hL
  · rw [e] at hL
    cases hL
    exact kQ wl H' hwl s
  · rw [e] at hm; cases hm
theorem use_pa (Z : Z68 C H x q us b) (hm : Mn68 H M) {tv : V} (rt : Rp H tv tv68) (l1 : 1 ≤ lim) (ll : lim.natAbs.log2 < 1920)
    (kQ : (b : Int) ≤ lim → ∀ (ls : Addr) (qs : List V) (H' : Hp), H' ls = some (.lst qs) → RpAll H' qs (ds68 b) → H ls = none → Same H H' → Q (.ref ls) H')
    (kE : lim < (b : Int) → ∀ (d : Addr) (H' : Hp), H d = none → H' d = some (.xd [("what", .int lim)]) → Same H H' → E (.ref TM) (some d) H') : spPaper C TM [.ref x, .ref q, .ref M, tv, .int lim] H Q E := by
  obtain ⟨m, h1, h2⟩ := hm
  have b2 := Z.b2
  have b6 := Z.b6
  have g := gw68 (b := (b : Int)) (a := 0) (by omega) (by decide) (by omega)
  have e : bfs0 (stepD xs68 (b : Int) rs68) (hitW (some (0, 0, .num 0))) (min lim 900) rs68.length (st68 0) = if (b : Int) ≤ min lim 900 then .run (line68 b) else .many := bfs0_68 b2 (by omega) (by omega) hit68
  refine ⟨x, q, M, us, [.ref m], xs68, b, st68 0, rs68, tv, 0, 0, .num 0, lim, rfl, Z.mc, Z.r, g, h1, Mn68.rp h2, rs68_ok, by decide, rt, by decide, by decide, by decide, by decide, l1, ll, fun h => ?_, fun L hL ls qs H' hls rqs nls s => ?_, fun L w hL H' s => ?_, fun hm d H' hd hx s => ?_⟩
  · rw [e, if_pos (by omega)]
    exact fun z => nomatch z
  · rw [e] at hL
    by_cases hb : (b : Int) ≤ lim
    · rw [if_pos (by omega)] at hL
      cases hL
      rw [ds68_line] at rqs
      exact kQ hb ls qs H' hls rqs nls s
    · rw [if_neg (by omega)] at hL; cases hL
  · rw [e] at hL
    by_cases hb : (b : Int) ≤ lim
    · rw [if_pos (by omega)] at hL; cases hL
    · rw [if_neg (by omega)] at hL; cases hL
  · rw [e] at hm
    by_cases hb : (b : Int) ≤ lim
    · rw [if_pos (by omega)] at hm; cases hm
    · exact kE (by omega) d H' hd hx s
theorem use_pt (Z : Z68 C H x q us b) (hm : Mn68 H M) (l1 : 1 ≤ lim) (ll : lim.natAbs.log2 < 1920)
    (kQ : (b : Int) ≤ lim → ∀ (H' : Hp), Same H H' → Q .non H')
    (kE : lim < (b : Int) → ∀ (d : Addr) (H' : Hp), H d = none → H' d = some (.xd [("what", .int lim)]) → Same H H' → E (.ref TM) (some d) H') : spParting C TM [.ref x, .ref x, .ref q, .ref q, .ref M, .int lim] H Q E := by
  obtain ⟨m, h1, h2⟩ := hm
  have b2 := Z.b2
  have b6 := Z.b6
  have g := gw68 (b := (b : Int)) (a := 0) (by omega) (by decide) (by omega)
  obtain ⟨e1, e2⟩ := bfsP0_68 (lc := min lim 900) b2 (by omega) (by omega)
  refine ⟨x, x, q, q, M, us, us, [.ref m], xs68, xs68, b, (st68 0, st68 0), rs68, lim, rfl, Z.mc, Z.mc, rfl, Z.r, Z.r, rfl, ⟨g, g⟩, h1, Mn68.rp h2, rs68_ok, by decide, l1, ll, fun h L hL => ?_, fun L hL H' s => ?_, fun L w hL wl H' _ _ s => ?_, fun L hL d H' hd hx s => ?_⟩
  · have := e1 (by omega)
    rw [show rs68.length = 1 from rfl, this] at hL; cases hL
  · by_cases hb : (b : Int) ≤ lim
    · exact kQ hb H' s
    · obtain ⟨L2, h⟩ := e2 (by omega)
      rw [show rs68.length = 1 from rfl, h] at hL; cases hL
  · by_cases hb : (b : Int) ≤ lim
    · rw [show rs68.length = 1 from rfl, e1 (by omega)] at hL; cases hL
    · obtain ⟨L2, h⟩ := e2 (by omega)
      rw [show rs68.length = 1 from rfl, h] at hL; cases hL
  · by_cases hb : (b : Int) ≤ lim
    · rw [show rs68.length = 1 from rfl, e1 (by omega)] at hL; cases hL
    · exact kE (by omega) d H' hd hx s
theorem use_al (Z : Z68 C H x q us b) (hm : Mn68 H M) (l1 : 1 ≤ lim) (ll : lim.natAbs.log2 < 1920)
    (kQ : (b : Int) ≤ lim → ∀ (ls : Addr) (qs : List V) (H' : Hp), H' ls = some (.lst qs) → RpAll H' qs (dp68 b) → H ls = none → Same H H' → Q (.ref ls) H')
    (kE : lim < (b : Int) → ∀ (d : Addr) (H' : Hp), H d = none → H' d = some (.xd [("what", .int lim)]) → Same H H' → E (.ref TM) (some d) H') : spAlikeP C TM [.ref x, .ref x, .ref q, .ref q, .ref M, .int lim] H Q E := by
  obtain ⟨m, h1, h2⟩ := hm
  have b2 := Z.b2
  have b6 := Z.b6
  have g := gw68 (b := (b : Int)) (a := 0) (by omega) (by decide) (by omega)
  obtain ⟨e1, e2⟩ := bfsP0_68 (lc := min lim 900) b2 (by omega) (by omega)
  refine ⟨x, x, q, q, M, us, us, [.ref m], xs68, xs68, b, (st68 0, st68 0), rs68, lim, rfl, Z.mc, Z.mc, rfl, Z.r, Z.r, rfl, ⟨g, g⟩, h1, Mn68.rp h2, rs68_ok, by decide, l1, ll, fun h L hL => ?_, fun L hL ls qs H' hls rqs nls s => ?_, fun L w hL H' s => ?_, fun L hL d H' hd hx s => ?_⟩
  · have := e1 (by omega)
    rw [show rs68.length = 1 from rfl, this] at hL; cases hL
  · by_cases hb : (b : Int) ≤ lim
    · rw [show rs68.length = 1 from rfl, e1 (by omega)] at hL
      cases hL
      rw [dp68_line] at rqs
      exact kQ hb ls qs H' hls rqs nls s
    · obtain ⟨L2, h⟩ := e2 (by omega)
      rw [show rs68.length = 1 from rfl, h] at hL; cases hL
  · by_cases hb : (b : Int) ≤ lim
    · rw [show rs68.length = 1 from rfl, e1 (by omega)] at hL; cases hL
    · obtain ⟨L2, h⟩ := e2 (by omega)
      rw [show rs68.length = 1 from rfl, h] at hL; cases hL
  · by_cases hb : (b : Int) ≤ lim
    · rw [show rs68.length = 1 from rfl, e1 (by omega)] at hL; cases hL
    · exact kE (by omega) d H' hd hx s
theorem use_ph (Z : Z68 C H x q us b) (hm : Mn68 H M) {tv : V} (rt : Rp H tv tv68) {p : Addr} {qs : List V} {is : List Nat} (hp : H p = some (.lst qs)) (rq : RpAll H qs (is.map fun i => (st68 ((i : Nat) : Int)).d)) (hi : ∀ i ∈ is, i < b) (l9 : is.length ≤ 900)
    (kQ : ∀ H', Same H H' → Q (.bl (phR (stepD xs68 (b : Int) rs68) (hitW (some (0, 0, .num 0))) 1 (st68 0) (is.map fun i => st68 ((i : Nat) : Int)))) H') : spPaperHolds C [.ref x, .ref q, .ref M, tv, .ref p] H Q E := by
  obtain ⟨m, h1, h2⟩ := hm
  have b2 := Z.b2
  exact ⟨x, q, M, p, us, [.ref m], qs, xs68, b, st68 0, rs68, tv, 0, 0, .num 0, is.map fun i => st68 ((i : Nat) : Int), rfl, Z.mc, Z.r, h1, Mn68.rp h2, rs68_ok, by decide, rt, by decide, by decide, by decide, by decide, hp, by rw [List.map_map]; exact rq, fun s hs => by
    obtain ⟨i, hi2, rfl⟩ := List.mem_map.mp hs
    exact gw68 (by omega) (by omega) (by have := hi i hi2; omega), by rw [List.length_map]; exact l9, kQ⟩
theorem use_ah (Z : Z68 C H x q us b) (hm : Mn68 H M) {p : Addr} {qs : List V} {is : List Nat} (hp : H p = some (.lst qs)) (rq : RpAll H qs (is.map fun i => Pr.d (pr68 i))) (hi : ∀ i ∈ is, i < b) (l9 : is.length ≤ 900)
    (kQ : ∀ H', Same H H' → Q (.bl (ahW (seeP xs68 xs68) (partP xs68 xs68 (b : Int) rs68) (stepP xs68 xs68 (b : Int) rs68) 1 (pr68 0) (is.map pr68))) H') : spAlikeHoldsW C [.ref x, .ref x, .ref q, .ref q, .ref M, .ref p] H Q E := by
  obtain ⟨m, h1, h2⟩ := hm
  have b2 := Z.b2
  exact ⟨x, x, q, q, M, p, us, us, [.ref m], qs, xs68, xs68, b, pr68 0, rs68, is.map pr68, rfl, Z.mc, Z.mc, rfl, Z.r, Z.r, rfl, h1, Mn68.rp h2, rs68_ok, by decide, hp, by rw [List.map_map]; exact rq, fun s hs => by
    obtain ⟨i, hi2, rfl⟩ := List.mem_map.mp hs
    have g := gw68 (b := (b : Int)) (a := (i : Int)) (by omega) (by omega) (by have := hi i hi2; omega)
    exact ⟨g, g⟩, by rw [List.length_map]; exact l9, kQ⟩
end
end
open PySem PySem.Spec L2
section
variable {P : Program} {w : World} {K : PySem.W.Frag} {mg : Str → Option Value} {base : Heap}
def res68 (kd : Int) (b : Nat) : V := if kd = 1 ∨ kd = 3 then .non else .int (b : Int)
def spFree (C TM : Addr) : Sp := fun vs H Q E => ∃ (kd : Int) (x q : Addr) (tv : V) (us : List V) (b : Nat), vs = [.int kd, .ref x, .ref q, tv] ∧ 0 ≤ kd ∧ kd ≤ 4 ∧ Z68 C H x q us b ∧ Rp H tv tv68 ∧ 
  ((b : Int) ≤ 400 → ∀ H', Same H H' → Q (res68 kd b) H') ∧ (400 < (b : Int) → ∀ (d : Addr) (H' : Hp), H d = none → H' d = some (.xd [("what", .int 400)]) → Same H H' → E (.ref TM) (some d) H')
theorem ok_law_free {f C TM f_st f_wy f_pa f_pt f_al : Addr} {fd fd_st fd_wy fd_pa fd_pt fd_al : FuncData} {dv_st dv_wy dv_pa dv_pt dv_al : List Value} (B : BT mg) (F : Fun K "_law_free" "_law_free" s_law_free f fd) (hm : mg "_law_free" = some (.ref f))
    (hm_st : mg "stands" = some (.ref f_st)) (hk_st : PySem.W.keepIn K (.ref f_st) = true) (F_st : FnOk P w K mg base (L2.CX P w) 12 f_st fd_st ["machine", "stand", "menu", "limit"] (spStands C TM))
    (b_st : Binds K fd_st ["machine", "stand", "menu", "limit"] dv_st) (v_st : Vals [.int 400] dv_st)
    (hm_wy : mg "way" = some (.ref f_wy)) (hk_wy : PySem.W.keepIn K (.ref f_wy) = true) (F_wy : FnOk P w K mg base (L2.CX P w) 12 f_wy fd_wy ["machine", "stand", "menu", "wish", "limit"] (spWay C TM))
    (b_wy : Binds K fd_wy ["machine", "stand", "menu", "wish", "limit"] dv_wy) (v_wy : Vals [.int 400] dv_wy)
    (hm_pa : mg "paper" = some (.ref f_pa)) (hk_pa : PySem.W.keepIn K (.ref f_pa) = true) (F_pa : FnOk P w K mg base (L2.CX P w) 12 f_pa fd_pa ["machine", "stand", "menu", "wish", "limit"] (spPaper C TM))
    (b_pa : Binds K fd_pa ["machine", "stand", "menu", "wish", "limit"] dv_pa) (v_pa : Vals [.int 400] dv_pa)
    (hm_pt : mg "parting" = some (.ref f_pt)) (hk_pt : PySem.W.keepIn K (.ref f_pt) = true) (F_pt : FnOk P w K mg base (L2.CX P w) 13 f_pt fd_pt ["one", "other", "stand", "other_stand", "menu", "limit"] (spParting C TM))
    (b_pt : Binds K fd_pt ["one", "other", "stand", "other_stand", "menu", "limit"] dv_pt) (v_pt : Vals [.int 400] dv_pt)
    (hm_al : mg "alike" = some (.ref f_al)) (hk_al : PySem.W.keepIn K (.ref f_al) = true) (F_al : FnOk P w K mg base (L2.CX P w) 13 f_al fd_al ["one", "other", "stand", "other_stand", "menu", "limit"] (spAlikeP C TM))
    (b_al : Binds K fd_al ["one", "other", "stand", "other_stand", "menu", "limit"] dv_al) (v_al : Vals [.int 400] dv_al) :
    CalX P w K mg base "_law_free" 14 ["kind", "scene", "seat", "target"] (spFree C TM) := by
  refine ⟨f, fd, hm, F.kp, F.binds (ps := ["kind", "scene", "seat", "target"]) fun _ _ _ _ _ _ us hl => match us, hl with | [_, _, _, _], _ => rfl, ?_⟩
  refine F.okX sc_law_free (fun vs H Q E h => ?_) (fun cdv A outer s H vs Q E hr h => ?_)
  · obtain ⟨kd, x, q, tv, us, b, rfl, _⟩ := h
    rfl
  · obtain ⟨kd, x, q, tv, us, b, rfl, k0, k4, Z, rt, kQ, kE⟩ := h
    refine ⟨_, (pss_cons (ps_if (pt_cmpR op_eq (pv 0) pe_int (nomark _)) (pss_one (ps_ret (pe_callB (cr_lenS (K := K)) rfl B.g_len PySem.boot_len (pa_cons (pe_callSd F_st (hr.mono (by omega)) rfl hm_st hk_st b_st v_st (fun σ => passAt (takes_of rfl rfl rfl rfl) σ) (pa_cons (pv 1) (pa_cons (pv 2) (pa_cons (pe_lst (pa_cons (pe_tup (pa_cons pe_str (pa_cons pe_int pa_nil))) pa_nil)) pa_nil)))) pa_nil)))) pss_nil)
 (pss_cons (ps_if (pt_cmpR op_eq (pv 0) pe_int (nomark _)) (pss_one (ps_ret (pe_callSd F_wy (hr.mono (by omega)) rfl hm_wy hk_wy b_wy v_wy (fun σ => passAt (takes_of rfl rfl rfl rfl) σ) (pa_cons (pv 1) (pa_cons (pv 2) (pa_cons (pe_lst (pa_cons (pe_tup (pa_cons pe_str (pa_cons pe_int pa_nil))) pa_nil)) (pa_cons (pv 3) pa_nil))))))) pss_nil)
 (pss_cons (ps_if (pt_cmpR op_eq (pv 0) pe_int (nomark _)) (pss_one (ps_ret (pe_callB (cr_lenS (K := K)) rfl B.g_len PySem.boot_len (pa_cons (pe_callSd F_pa (hr.mono (by omega)) rfl hm_pa hk_pa b_pa v_pa (fun σ => passAt (takes_of rfl rfl rfl rfl) σ) (pa_cons (pv 1) (pa_cons (pv 2) (pa_cons (pe_lst (pa_cons (pe_tup (pa_cons pe_str (pa_cons pe_int pa_nil))) pa_nil)) (pa_cons (pv 3) pa_nil))))) pa_nil)))) pss_nil)
 (pss_cons (ps_if (pt_cmpR op_eq (pv 0) pe_int (nomark _)) (pss_one (ps_ret (pe_callSd F_pt (hr.mono (by omega)) rfl hm_pt hk_pt b_pt v_pt (fun σ => passAt (takes_of rfl rfl rfl rfl) σ) (pa_cons (pv 1) (pa_cons (pv 1) (pa_cons (pv 2) (pa_cons (pv 2) (pa_cons (pe_lst (pa_cons (pe_tup (pa_cons pe_str (pa_cons pe_int pa_nil))) pa_nil)) pa_nil)))))))) pss_nil)
 (pss_one (ps_ret (pe_callB (cr_lenS (K := K)) rfl B.g_len PySem.boot_len (pa_cons (pe_callSd F_al (hr.mono (by omega)) rfl hm_al hk_al b_al v_al (fun σ => passAt (takes_of rfl rfl rfl rfl) σ) (pa_cons (pv 1) (pa_cons (pv 1) (pa_cons (pv 2) (pa_cons (pv 2) (pa_cons (pe_lst (pa_cons (pe_tup (pa_cons pe_str (pa_cons pe_int pa_nil))) pa_nil)) pa_nil)))))) pa_nil)))))))), ?_⟩
    walk_at "rds"
    refine rd_ifI (fun c => ?_) (fun c0 => ?_)
    · subst c
      walk_at "rd"
      refine rd_callSd ?_
      walk_at "rd"
      intro om hom
      have t1 := same_upd (o := .tup [.str "add", .int 1]) hom
      have e1 := upd_ofL (o := .tup [.str "add", .int 1]) hom
      generalize upd H om (.tup [.str "add", .int 1]) = Ha at t1 e1 ⊢
      walk_at "rd"
      intro oM hoM
      have t2 := same_upd (o := .lst [.ref om]) hoM
      have e2 := upd_ofL (o := .lst [.ref om]) hoM
      generalize upd Ha oM (.lst [.ref om]) = Hb at t2 e2 ⊢
      have t12 := t1.trans t2
      have Zb := Z.same t12
      have mn : Mn68 Hb oM := ⟨om, e2, t2 _ _ e1⟩
      walk_at "rd"
      refine use_st Zb mn (by decide) (log_w (by omega)) (fun hb ls qs H2 hls rqs nls s2 => ?_) fun hb d H2 hd hx s2 => kE hb d H2 (t12.free hd) hx (t12.trans s2)
      have lq : qs.length = b := by rw [rqs.length]; unfold ds68; rw [List.length_map, List.length_range]
      walk_at "rd"
      refine ⟨ls, qs, rfl, .inl (SqL.of hls), ?_⟩
      rw [lq]
      walk_at "rd"
      exact kQ hb H2 (t12.trans s2)
    walk_at "rd"
    refine rd_ifI (fun c => ?_) (fun c1 => ?_)
    · subst c
      walk_at "rd"
      refine rd_callSd ?_
      walk_at "rd"
      intro om hom
      have t1 := same_upd (o := .tup [.str "add", .int 1]) hom
      have e1 := upd_ofL (o := .tup [.str "add", .int 1]) hom
      generalize upd H om (.tup [.str "add", .int 1]) = Ha at t1 e1 ⊢
      walk_at "rd"
      intro oM hoM
      have t2 := same_upd (o := .lst [.ref om]) hoM
      have e2 := upd_ofL (o := .lst [.ref om]) hoM
      generalize upd Ha oM (.lst [.ref om]) = Hb at t2 e2 ⊢
      have t12 := t1.trans t2
      have Zb := Z.same t12
      have mn : Mn68 Hb oM := ⟨om, e2, t2 _ _ e1⟩
      walk_at "rd"
      refine use_wy Zb mn (rt.keep (Tk.of t12)) (by decide) (log_w (by omega)) (fun hb H2 s2 => ?_) fun hb d H2 hd hx s2 => kE hb d H2 (t12.free hd) hx (t12.trans s2)
      walk_at "rd"
      exact kQ hb H2 (t12.trans s2)
    walk_at "rd"
    refine rd_ifI (fun c => ?_) (fun c2 => ?_)
    · subst c
      walk_at "rd"
      refine rd_callSd ?_
      walk_at "rd"
      intro om hom
      have t1 := same_upd (o := .tup [.str "add", .int 1]) hom
      have e1 := upd_ofL (o := .tup [.str "add", .int 1]) hom
      generalize upd H om (.tup [.str "add", .int 1]) = Ha at t1 e1 ⊢
      walk_at "rd"
      intro oM hoM
      have t2 := same_upd (o := .lst [.ref om]) hoM
      have e2 := upd_ofL (o := .lst [.ref om]) hoM
      generalize upd Ha oM (.lst [.ref om]) = Hb at t2 e2 ⊢
      have t12 := t1.trans t2
      have Zb := Z.same t12
      have mn : Mn68 Hb oM := ⟨om, e2, t2 _ _ e1⟩
      walk_at "rd"
      refine use_pa Zb mn (rt.keep (Tk.of t12)) (by decide) (log_w (by omega)) (fun hb ls qs H2 hls rqs nls s2 => ?_) fun hb d H2 hd hx s2 => kE hb d H2 (t12.free hd) hx (t12.trans s2)
      have lq : qs.length = b := by rw [rqs.length]; unfold ds68; rw [List.length_map, List.length_range]
      walk_at "rd"
      refine ⟨ls, qs, rfl, .inl (SqL.of hls), ?_⟩
      rw [lq]
      walk_at "rd"
      exact kQ hb H2 (t12.trans s2)
    walk_at "rd"
    refine rd_ifI (fun c => ?_) (fun c3 => ?_)
    · subst c
      walk_at "rd"
      refine rd_callSd ?_
      walk_at "rd"
      intro om hom
      have t1 := same_upd (o := .tup [.str "add", .int 1]) hom
      have e1 := upd_ofL (o := .tup [.str "add", .int 1]) hom
      generalize upd H om (.tup [.str "add", .int 1]) = Ha at t1 e1 ⊢
      walk_at "rd"
      intro oM hoM
      have t2 := same_upd (o := .lst [.ref om]) hoM
      have e2 := upd_ofL (o := .lst [.ref om]) hoM
      generalize upd Ha oM (.lst [.ref om]) = Hb at t2 e2 ⊢
      have t12 := t1.trans t2
      have Zb := Z.same t12
      have mn : Mn68 Hb oM := ⟨om, e2, t2 _ _ e1⟩
      walk_at "rd"
      refine use_pt Zb mn (by decide) (log_w (by omega)) (fun hb H2 s2 => ?_) fun hb d H2 hd hx s2 => kE hb d H2 (t12.free hd) hx (t12.trans s2)
      walk_at "rd"
      exact kQ hb H2 (t12.trans s2)
    walk_at "rd"
    obtain rfl : kd = 4 := by omega
    walk_at "rd"
    refine rd_callSd ?_
    walk_at "rd"
    intro om hom
    have t1 := same_upd (o := .tup [.str "add", .int 1]) hom
    have e1 := upd_ofL (o := .tup [.str "add", .int 1]) hom
    generalize upd H om (.tup [.str "add", .int 1]) = Ha at t1 e1 ⊢
    walk_at "rd"
    intro oM hoM
    have t2 := same_upd (o := .lst [.ref om]) hoM
    have e2 := upd_ofL (o := .lst [.ref om]) hoM
    generalize upd Ha oM (.lst [.ref om]) = Hb at t2 e2 ⊢
    have t12 := t1.trans t2
    have Zb := Z.same t12
    have mn : Mn68 Hb oM := ⟨om, e2, t2 _ _ e1⟩
    walk_at "rd"
    refine use_al Zb mn (by decide) (log_w (by omega)) (fun hb ls qs H2 hls rqs nls s2 => ?_) fun hb d H2 hd hx s2 => kE hb d H2 (t12.free hd) hx (t12.trans s2)
    have lq : qs.length = b := by rw [rqs.length]; unfold dp68; rw [List.length_map, List.length_range]
    walk_at "rd"
    refine ⟨ls, qs, rfl, .inl (SqL.of hls), ?_⟩
    rw [lq]
    walk_at "rd"
    exact kQ hb H2 (t12.trans s2)
def spBound (C TM : Addr) : Sp := fun vs H Q E => ∃ (kd : Int) (x q : Addr) (tv : V) (us : List V) (b : Nat) (lim : Int), vs = [.int kd, .ref x, .ref q, tv, .int lim] ∧ 0 ≤ kd ∧ kd ≤ 4 ∧ Z68 C H x q us b ∧ Rp H tv tv68 ∧ 1 ≤ lim ∧ lim.natAbs.log2 < 1920 ∧
  ((b : Int) ≤ lim → ∀ H', Same H H' → Q (res68 kd b) H') ∧ (lim < (b : Int) → ∀ (d : Addr) (H' : Hp), H d = none → H' d = some (.xd [("what", .int lim)]) → Same H H' → E (.ref TM) (some d) H')
theorem ok_law_bound {f C TM f_st f_wy f_pa f_pt f_al : Addr} {fd fd_st fd_wy fd_pa fd_pt fd_al : FuncData} {g_st g_wy g_pa g_pt g_al : List Value → List Value → List Value} (B : BT mg) (F : Fun K "_law_bound" "_law_bound" s_law_bound f fd) (hm : mg "_law_bound" = some (.ref f))
    (hm_st : mg "stands" = some (.ref f_st)) (hk_st : PySem.W.keepIn K (.ref f_st) = true) (F_st : FnOk P w K mg base (L2.CX P w) 12 f_st fd_st ["machine", "stand", "menu", "limit"] (spStands C TM))
    (kb_st : KBn K fd_st ["machine", "stand", "menu", "limit"] 3 ["limit"] g_st (fun vs zs => vs ++ zs))
    (hm_wy : mg "way" = some (.ref f_wy)) (hk_wy : PySem.W.keepIn K (.ref f_wy) = true) (F_wy : FnOk P w K mg base (L2.CX P w) 12 f_wy fd_wy ["machine", "stand", "menu", "wish", "limit"] (spWay C TM))
    (kb_wy : KBn K fd_wy ["machine", "stand", "menu", "wish", "limit"] 4 ["limit"] g_wy (fun vs zs => vs ++ zs))
    (hm_pa : mg "paper" = some (.ref f_pa)) (hk_pa : PySem.W.keepIn K (.ref f_pa) = true) (F_pa : FnOk P w K mg base (L2.CX P w) 12 f_pa fd_pa ["machine", "stand", "menu", "wish", "limit"] (spPaper C TM))
    (kb_pa : KBn K fd_pa ["machine", "stand", "menu", "wish", "limit"] 4 ["limit"] g_pa (fun vs zs => vs ++ zs))
    (hm_pt : mg "parting" = some (.ref f_pt)) (hk_pt : PySem.W.keepIn K (.ref f_pt) = true) (F_pt : FnOk P w K mg base (L2.CX P w) 13 f_pt fd_pt ["one", "other", "stand", "other_stand", "menu", "limit"] (spParting C TM))
    (kb_pt : KBn K fd_pt ["one", "other", "stand", "other_stand", "menu", "limit"] 5 ["limit"] g_pt (fun vs zs => vs ++ zs))
    (hm_al : mg "alike" = some (.ref f_al)) (hk_al : PySem.W.keepIn K (.ref f_al) = true) (F_al : FnOk P w K mg base (L2.CX P w) 13 f_al fd_al ["one", "other", "stand", "other_stand", "menu", "limit"] (spAlikeP C TM))
    (kb_al : KBn K fd_al ["one", "other", "stand", "other_stand", "menu", "limit"] 5 ["limit"] g_al (fun vs zs => vs ++ zs)) :
    CalX P w K mg base "_law_bound" 14 ["kind", "scene", "seat", "target", "most"] (spBound C TM) := by
  refine ⟨f, fd, hm, F.kp, F.binds (ps := ["kind", "scene", "seat", "target", "most"]) fun _ _ _ _ _ _ us hl => match us, hl with | [_, _, _, _, _], _ => rfl, ?_⟩
  refine F.okX sc_law_bound (fun vs H Q E h => ?_) (fun cdv A outer s H vs Q E hr h => ?_)
  · obtain ⟨kd, x, q, tv, us, b, lim, rfl, _⟩ := h
    rfl
  · obtain ⟨kd, x, q, tv, us, b, lim, rfl, k0, k4, Z, rt, l1, ll, kQ, kE⟩ := h
    refine ⟨_, (pss_cons (ps_if (pt_cmpR op_eq (pv 0) pe_int (nomark _)) (pss_one (ps_ret (pe_callB (cr_lenS (K := K)) rfl B.g_len PySem.boot_len (pa_cons (pe_callNS F_st (hr.mono (by omega)) rfl hm_st hk_st kb_st (fun σ => passAt (takes_of rfl rfl rfl rfl) σ) (pa_cons (pv 1) (pa_cons (pv 2) (pa_cons (pe_lst (pa_cons (pe_tup (pa_cons pe_str (pa_cons pe_int pa_nil))) pa_nil)) pa_nil))) (pk_cons (pv 4) pk_nil)) pa_nil)))) pss_nil)
 (pss_cons (ps_if (pt_cmpR op_eq (pv 0) pe_int (nomark _)) (pss_one (ps_ret (pe_callNS F_wy (hr.mono (by omega)) rfl hm_wy hk_wy kb_wy (fun σ => passAt (takes_of rfl rfl rfl rfl) σ) (pa_cons (pv 1) (pa_cons (pv 2) (pa_cons (pe_lst (pa_cons (pe_tup (pa_cons pe_str (pa_cons pe_int pa_nil))) pa_nil)) (pa_cons (pv 3) pa_nil)))) (pk_cons (pv 4) pk_nil)))) pss_nil)
 (pss_cons (ps_if (pt_cmpR op_eq (pv 0) pe_int (nomark _)) (pss_one (ps_ret (pe_callB (cr_lenS (K := K)) rfl B.g_len PySem.boot_len (pa_cons (pe_callNS F_pa (hr.mono (by omega)) rfl hm_pa hk_pa kb_pa (fun σ => passAt (takes_of rfl rfl rfl rfl) σ) (pa_cons (pv 1) (pa_cons (pv 2) (pa_cons (pe_lst (pa_cons (pe_tup (pa_cons pe_str (pa_cons pe_int pa_nil))) pa_nil)) (pa_cons (pv 3) pa_nil)))) (pk_cons (pv 4) pk_nil)) pa_nil)))) pss_nil)
 (pss_cons (ps_if (pt_cmpR op_eq (pv 0) pe_int (nomark _)) (pss_one (ps_ret (pe_callNS F_pt (hr.mono (by omega)) rfl hm_pt hk_pt kb_pt (fun σ => passAt (takes_of rfl rfl rfl rfl) σ) (pa_cons (pv 1) (pa_cons (pv 1) (pa_cons (pv 2) (pa_cons (pv 2) (pa_cons (pe_lst (pa_cons (pe_tup (pa_cons pe_str (pa_cons pe_int pa_nil))) pa_nil)) pa_nil))))) (pk_cons (pv 4) pk_nil)))) pss_nil)
 (pss_one (ps_ret (pe_callB (cr_lenS (K := K)) rfl B.g_len PySem.boot_len (pa_cons (pe_callNS F_al (hr.mono (by omega)) rfl hm_al hk_al kb_al (fun σ => passAt (takes_of rfl rfl rfl rfl) σ) (pa_cons (pv 1) (pa_cons (pv 1) (pa_cons (pv 2) (pa_cons (pv 2) (pa_cons (pe_lst (pa_cons (pe_tup (pa_cons pe_str (pa_cons pe_int pa_nil))) pa_nil)) pa_nil))))) (pk_cons (pv 4) pk_nil)) pa_nil)))))))), ?_⟩
    walk_at "rds"
    refine rd_ifI (fun c => ?_) (fun c0 => ?_)
    · subst c
      walk_at "rd"
      refine rd_callNS ?_
      walk_at "rd"
      intro om hom
      have t1 := same_upd (o := .tup [.str "add", .int 1]) hom
      have e1 := upd_ofL (o := .tup [.str "add", .int 1]) hom
      generalize upd H om (.tup [.str "add", .int 1]) = Ha at t1 e1 ⊢
      walk_at "rd"
      intro oM hoM
      have t2 := same_upd (o := .lst [.ref om]) hoM
      have e2 := upd_ofL (o := .lst [.ref om]) hoM
      generalize upd Ha oM (.lst [.ref om]) = Hb at t2 e2 ⊢
      have t12 := t1.trans t2
      have Zb := Z.same t12
      have mn : Mn68 Hb oM := ⟨om, e2, t2 _ _ e1⟩
      walk_at "rd"
      refine ⟨rfl, rfl, ?_⟩
      refine use_st Zb mn l1 ll (fun hb ls qs H2 hls rqs nls s2 => ?_) fun hb d H2 hd hx s2 => kE hb d H2 (t12.free hd) hx (t12.trans s2)
      have lq : qs.length = b := by rw [rqs.length]; unfold ds68; rw [List.length_map, List.length_range]
      walk_at "rd"
      refine ⟨ls, qs, rfl, .inl (SqL.of hls), ?_⟩
      rw [lq]
      walk_at "rd"
      exact kQ hb H2 (t12.trans s2)
    walk_at "rd"
    refine rd_ifI (fun c => ?_) (fun c1 => ?_)
    · subst c
      walk_at "rd"
      refine rd_callNS ?_
      walk_at "rd"
      intro om hom
      have t1 := same_upd (o := .tup [.str "add", .int 1]) hom
      have e1 := upd_ofL (o := .tup [.str "add", .int 1]) hom
      generalize upd H om (.tup [.str "add", .int 1]) = Ha at t1 e1 ⊢
      walk_at "rd"
      intro oM hoM
      have t2 := same_upd (o := .lst [.ref om]) hoM
      have e2 := upd_ofL (o := .lst [.ref om]) hoM
      generalize upd Ha oM (.lst [.ref om]) = Hb at t2 e2 ⊢
      have t12 := t1.trans t2
      have Zb := Z.same t12
      have mn : Mn68 Hb oM := ⟨om, e2, t2 _ _ e1⟩
      walk_at "rd"
      refine ⟨rfl, rfl, ?_⟩
      refine use_wy Zb mn (rt.keep (Tk.of t12)) l1 ll (fun hb H2 s2 => ?_) fun hb d H2 hd hx s2 => kE hb d H2 (t12.free hd) hx (t12.trans s2)
      walk_at "rd"
      exact kQ hb H2 (t12.trans s2)
    walk_at "rd"
    refine rd_ifI (fun c => ?_) (fun c2 => ?_)
    · subst c
      walk_at "rd"
      refine rd_callNS ?_
      walk_at "rd"
      intro om hom
      have t1 := same_upd (o := .tup [.str "add", .int 1]) hom
      have e1 := upd_ofL (o := .tup [.str "add", .int 1]) hom
      generalize upd H om (.tup [.str "add", .int 1]) = Ha at t1 e1 ⊢
      walk_at "rd"
      intro oM hoM
      have t2 := same_upd (o := .lst [.ref om]) hoM
      have e2 := upd_ofL (o := .lst [.ref om]) hoM
      generalize upd Ha oM (.lst [.ref om]) = Hb at t2 e2 ⊢
      have t12 := t1.trans t2
      have Zb := Z.same t12
      have mn : Mn68 Hb oM := ⟨om, e2, t2 _ _ e1⟩
      walk_at "rd"
      refine ⟨rfl, rfl, ?_⟩
      refine use_pa Zb mn (rt.keep (Tk.of t12)) l1 ll (fun hb ls qs H2 hls rqs nls s2 => ?_) fun hb d H2 hd hx s2 => kE hb d H2 (t12.free hd) hx (t12.trans s2)
      have lq : qs.length = b := by rw [rqs.length]; unfold ds68; rw [List.length_map, List.length_range]
      walk_at "rd"
      refine ⟨ls, qs, rfl, .inl (SqL.of hls), ?_⟩
      rw [lq]
      walk_at "rd"
      exact kQ hb H2 (t12.trans s2)
    walk_at "rd"
    refine rd_ifI (fun c => ?_) (fun c3 => ?_)
    · subst c
      walk_at "rd"
      refine rd_callNS ?_
      walk_at "rd"
      intro om hom
      have t1 := same_upd (o := .tup [.str "add", .int 1]) hom
      have e1 := upd_ofL (o := .tup [.str "add", .int 1]) hom
      generalize upd H om (.tup [.str "add", .int 1]) = Ha at t1 e1 ⊢
      walk_at "rd"
      intro oM hoM
      have t2 := same_upd (o := .lst [.ref om]) hoM
      have e2 := upd_ofL (o := .lst [.ref om]) hoM
      generalize upd Ha oM (.lst [.ref om]) = Hb at t2 e2 ⊢
      have t12 := t1.trans t2
      have Zb := Z.same t12
      have mn : Mn68 Hb oM := ⟨om, e2, t2 _ _ e1⟩
      walk_at "rd"
      refine ⟨rfl, rfl, ?_⟩
      refine use_pt Zb mn l1 ll (fun hb H2 s2 => ?_) fun hb d H2 hd hx s2 => kE hb d H2 (t12.free hd) hx (t12.trans s2)
      walk_at "rd"
      exact kQ hb H2 (t12.trans s2)
    walk_at "rd"
    obtain rfl : kd = 4 := by omega
    walk_at "rd"
    refine rd_callNS ?_
    walk_at "rd"
    intro om hom
    have t1 := same_upd (o := .tup [.str "add", .int 1]) hom
    have e1 := upd_ofL (o := .tup [.str "add", .int 1]) hom
    generalize upd H om (.tup [.str "add", .int 1]) = Ha at t1 e1 ⊢
    walk_at "rd"
    intro oM hoM
    have t2 := same_upd (o := .lst [.ref om]) hoM
    have e2 := upd_ofL (o := .lst [.ref om]) hoM
    generalize upd Ha oM (.lst [.ref om]) = Hb at t2 e2 ⊢
    have t12 := t1.trans t2
    have Zb := Z.same t12
    have mn : Mn68 Hb oM := ⟨om, e2, t2 _ _ e1⟩
    walk_at "rd"
    refine ⟨rfl, rfl, ?_⟩
    refine use_al Zb mn l1 ll (fun hb ls qs H2 hls rqs nls s2 => ?_) fun hb d H2 hd hx s2 => kE hb d H2 (t12.free hd) hx (t12.trans s2)
    have lq : qs.length = b := by rw [rqs.length]; unfold dp68; rw [List.length_map, List.length_range]
    walk_at "rd"
    refine ⟨ls, qs, rfl, .inl (SqL.of hls), ?_⟩
    rw [lq]
    walk_at "rd"
    exact kQ hb H2 (t12.trans s2)
end
open PySem PySem.Spec L2
section
variable {P : Program} {w : World} {K : PySem.W.Frag} {mg : Str → Option Value} {base : Heap}
def limV : Option Int → V
  | none => .non
  | some l => .int l
def spTold68 (C : Addr) : Sp := fun vs H Q _ => ∃ (kd : Int) (x q : Addr) (tv : V) (us : List V) (b : Nat) (lo : Option Int), vs = [.int kd, .ref x, .ref q, tv, limV lo] ∧ 0 ≤ kd ∧ kd ≤ 4 ∧ Z68 C H x q us b ∧ Rp H tv tv68 ∧ 1 ≤ lo.getD 400 ∧ (lo.getD 400).natAbs.log2 < 1920 ∧
  ((b : Int) ≤ lo.getD 400 → ∀ H', Same H H' → Q (res68 kd b) H') ∧ (lo.getD 400 < (b : Int) → ∀ (p : Addr) (H' : Hp), H' p = some (.tup [.str "TooMany", .int (lo.getD 400)]) → Same H H' → Q (.ref p) H')
theorem ok_told68 {f C TM : Addr} {fd : FuncData} (B : BT mg) (F : Fun K "_law_told" "_law_told" s_law_told f fd) (hm : mg "_law_told" = some (.ref f)) (X_TM : Exk P w K mg base "TooMany" TM) (ex : PySem.W.exmOne K (.ref TM) (.ref TM) = some true)
    (C_law_free : CalX P w K mg base "_law_free" 14 ["kind", "scene", "seat", "target"] (spFree C TM)) (C_law_bound : CalX P w K mg base "_law_bound" 14 ["kind", "scene", "seat", "target", "most"] (spBound C TM)) :
    Cal P w K mg base "_law_told" 15 ["kind", "scene", "seat", "target", "most"] (spTold68 C) := by
  refine ⟨f, fd, hm, F.kp, F.binds (ps := ["kind", "scene", "seat", "target", "most"]) fun _ _ _ _ _ _ us hl => match us, hl with | [_, _, _, _, _], _ => rfl, ?_⟩
  refine F.ok sc_law_told (fun vs H Q E h => ?_) (fun cdv A outer s H vs Q E hr h => ?_)
  · obtain ⟨kd, x, q, tv, us, b, lo, rfl, _⟩ := h
    rfl
  · obtain ⟨kd, x, q, tv, us, b, lo, rfl, k0, k4, Z, rt, l1, ll, kQ, kE⟩ := h
    refine ⟨_, (pss_one (ps_try_as (i := 5) rfl rfl sc_law_told.nd rfl rfl ⟨rfl, by decide, .inl X_TM.mgx⟩ takes0 (fun W pn xe tk _ => (pss_cons (ps_if (pt_cmpR op_isN (pv 4) pe_non (nomark _)) (pss_one (ps_ret (pe_calS C_law_free tk (hr.mono (by omega)) rfl (pa_cons (pv 0) (pa_cons (pv 1) (pa_cons (pv 2) (pa_cons (pv 3) pa_nil))))))) pss_nil)
 (pss_one (ps_ret (pe_calS C_law_bound tk (hr.mono (by omega)) rfl (pa_cons (pv 0) (pa_cons (pv 1) (pa_cons (pv 2) (pa_cons (pv 3) (pa_cons (pv 4) pa_nil)))))))))) (fun a oe cls d pn hz hf => (pss_one (ps_ret (pe_tup (pa_cons pe_str (pa_cons (pe_xf X_TM.xf X_TM.wh hz hf (pv 5)) pa_nil)))))))), ?_⟩
    cases lo with
    | none =>
      walk_at "rds"
      refine ⟨rfl, _, rfl, ?_⟩
      rw [if_pos (show decide (limV none = V.non) = true from decide_eq_true rfl)]
      walk_at "rd"
      refine ⟨kd, x, q, tv, us, b, rfl, k0, k4, Z, rt, fun hb H2 s2 => ?_, fun hb d H2 hd hd2 s2 => ?_⟩
      · walk_at "rd"
        exact kQ hb H2 s2
      · refine ⟨true, ex, fun _ a ha => ?_, fun z => nomatch z⟩
        walk_at "rd"
        refine ⟨_, rfl, rfl, rfl, d, _, _, rfl, hd2, rfl, ?_⟩
        walk_at "rd"
        intro p hp
        exact kE hb p _ upd_same (s2.trans (same_upd hp))
    | some l =>
      walk_at "rds"
      refine ⟨rfl, _, rfl, ?_⟩
      rw [if_neg (show ¬ decide (limV (some l) = V.non) = true from fun h => nomatch of_decide_eq_true h)]
      walk_at "rd"
      refine ⟨kd, x, q, tv, us, b, l, rfl, k0, k4, Z, rt, l1, ll, fun hb H2 s2 => ?_, fun hb d H2 hd hd2 s2 => ?_⟩
      · walk_at "rd"
        exact kQ hb H2 s2
      · refine ⟨true, ex, fun _ a ha => ?_, fun z => nomatch z⟩
        walk_at "rd"
        refine ⟨_, rfl, rfl, rfl, d, _, _, rfl, hd2, rfl, ?_⟩
        walk_at "rd"
        intro p hp
        exact kE hb p _ upd_same (s2.trans (same_upd hp))
end
open PySem PySem.Spec L2
section
variable {P : Program} {w : World} {K : PySem.W.Frag} {mg : Str → Option Value} {base : Heap}
theorem MAt.kp {C t g x : Addr} {H H' : Hp} {n : Nat} {us : List V} {b : Int} (h : MAt C H x us b) (T : Deck H t g n) (k : Kp t g H H') : MAt C H' x us b := by
  obtain ⟨dx, q, h1, h2⟩ := id h
  obtain ⟨_, e1⟩ := T.ht
  obtain ⟨_, e2⟩ := T.hg
  exact h.keep (fun o e => k _ _ e (ne_of h1 e1 (fun z => nomatch z)) (ne_of h1 e2 (fun z => nomatch z))) (k.dk T)
theorem RpAll.dropL {H : Hp} : ∀ (m : Nat) {vs : List V} {ds : List PyData}, RpAll H vs ds → RpAll H (vs.drop m) (ds.drop m)
  | 0, _, _, h => h
  | m + 1, _, _, .nil => by rw [List.drop_nil, List.drop_nil]; exact .nil
  | m + 1, _, _, .cons _ h2 => RpAll.dropL m h2
theorem RpAll.takeL {H : Hp} : ∀ (m : Nat) {vs : List V} {ds : List PyData}, RpAll H vs ds → RpAll H (vs.take m) (ds.take m)
  | 0, _, _, _ => .nil
  | m + 1, _, _, .nil => .nil
  | m + 1, _, _, .cons h1 h2 => .cons h1 (RpAll.takeL m h2)
def spHeld (C : Addr) : Sp := fun vs H Q _ => ∃ (t g : Addr) (n : Nat) (x q : Addr) (tv : V) (us : List V) (b : Nat), vs = [.ref t, .ref x, .ref q, tv] ∧ Deck H t g n ∧ n ≤ 500000 ∧ Z68 C H x q us b ∧ Rp H tv tv68 ∧ ∀ H', Q (.bl true) H'
theorem ok_held {f C TM f_pa f_al : Addr} {fd fd_pa fd_al : FuncData} {g_pa g_al : List Value → List Value → List Value} (B : BT mg) (F : Fun K "_law_held" "_law_held" s_law_held f fd) (hm : mg "_law_held" = some (.ref f))
    (hm_pa : mg "paper" = some (.ref f_pa)) (hk_pa : PySem.W.keepIn K (.ref f_pa) = true) (F_pa : FnOk P w K mg base (L2.CX P w) 12 f_pa fd_pa ["machine", "stand", "menu", "wish", "limit"] (spPaper C TM)) (kb_pa : KBn K fd_pa ["machine", "stand", "menu", "wish", "limit"] 4 ["limit"] g_pa (fun vs zs => vs ++ zs))
    (hm_al : mg "alike" = some (.ref f_al)) (hk_al : PySem.W.keepIn K (.ref f_al) = true) (F_al : FnOk P w K mg base (L2.CX P w) 13 f_al fd_al ["one", "other", "stand", "other_stand", "menu", "limit"] (spAlikeP C TM)) (kb_al : KBn K fd_al ["one", "other", "stand", "other_stand", "menu", "limit"] 5 ["limit"] g_al (fun vs zs => vs ++ zs))
    (C_law_draw : Cal P w K mg base "_law_draw" 1 ["bag", "many"] spDrawB) (C_paper_holds : Cal P w K mg base "paper_holds" 11 ["machine", "stand", "menu", "wish", "paper"] (spPaperHolds C)) (C_alike_holds : Cal P w K mg base "alike_holds" 12 ["one", "other", "stand", "other_stand", "menu", "pairs"] (spAlikeHoldsW C)) :
    Cal P w K mg base "_law_held" 14 ["bag", "scene", "seat", "target"] (spHeld C) := by
  refine ⟨f, fd, hm, F.kp, F.binds (ps := ["bag", "scene", "seat", "target"]) fun _ _ _ _ _ _ us hl => match us, hl with | [_, _, _, _], _ => rfl, ?_⟩
  refine F.ok sc_law_held (fun vs H Q E h => ?_) (fun cdv A outer s H vs Q E hr h => ?_)
  · obtain ⟨t, g, n, x, q, tv, us, b, rfl, _⟩ := h
    rfl
  · obtain ⟨t, g, n, x, q, tv, us, b, rfl, T, hn, Z, rt, k⟩ := h
    refine ⟨_, (pss_cons (ps_set (i := 4) sc_law_held.nd rfl (Or.inl rfl) (pe_callN F_pa (hr.mono (by omega)) rfl hm_pa hk_pa kb_pa pass1 (pa_cons (pv 1) (pa_cons (pv 2) (pa_cons (pe_lst (pa_cons (pe_tup (pa_cons pe_str (pa_cons pe_int pa_nil))) pa_nil)) (pa_cons (pv 3) pa_nil)))) (pk_cons (pe_powc (v := 100000000000000000000000000000000000000000000000000000000000) (by decide +kernel) (by decide +kernel)) pk_nil)))
 (pss_cons (ps_set (i := 5) sc_law_held.nd rfl (Or.inl rfl) (pe_callN F_al (hr.mono (by omega)) rfl hm_al hk_al kb_al pass1 (pa_cons (pv 1) (pa_cons (pv 1) (pa_cons (pv 2) (pa_cons (pv 2) (pa_cons (pe_lst (pa_cons (pe_tup (pa_cons pe_str (pa_cons pe_int pa_nil))) pa_nil)) pa_nil))))) (pk_cons (pe_powc (v := 100000000000000000000000000000000000000000000000000000000000) (by decide +kernel) (by decide +kernel)) pk_nil)))
 (pss_cons (ps_set (i := 6) sc_law_held.nd rfl (Or.inl rfl) (pe_cal C_law_draw (hr.mono (by omega)) rfl (pa_cons (pv 0) (pa_cons (pe_callB (cr_lenS (K := K)) rfl B.g_len PySem.boot_len (pa_cons (pv 4) pa_nil)) pa_nil))))
 (pss_cons (ps_if (pt_not (pt_val (pe_cal C_paper_holds (hr.mono (by omega)) rfl (pa_cons (pv 1) (pa_cons (pv 2) (pa_cons (pe_lst (pa_cons (pe_tup (pa_cons pe_str (pa_cons pe_int pa_nil))) pa_nil)) (pa_cons (pv 3) (pa_cons (pv 4) pa_nil)))))))) (pss_one (ps_ret pe_bl)) pss_nil)
 (pss_cons (ps_if (pt_val (pe_cal C_paper_holds (hr.mono (by omega)) rfl (pa_cons (pv 1) (pa_cons (pv 2) (pa_cons (pe_lst (pa_cons (pe_tup (pa_cons pe_str (pa_cons pe_int pa_nil))) pa_nil)) (pa_cons (pv 3) (pa_cons (pe_op op_cat (pe_slice (r := rSlL K) sl_list (pv 4) po_none (po_some (pv 6))) (pe_slice (r := rSlL K) sl_list (pv 4) (po_some (pe_op op_add (pv 6) pe_int)) po_none)) pa_nil))))))) (pss_one (ps_ret pe_bl)) pss_nil)
 (pss_cons (ps_if (pt_not (pt_val (pe_cal C_alike_holds (hr.mono (by omega)) rfl (pa_cons (pv 1) (pa_cons (pv 1) (pa_cons (pv 2) (pa_cons (pv 2) (pa_cons (pe_lst (pa_cons (pe_tup (pa_cons pe_str (pa_cons pe_int pa_nil))) pa_nil)) (pa_cons (pv 5) pa_nil))))))))) (pss_one (ps_ret pe_bl)) pss_nil)
 (pss_one (ps_ret (pe_not (pe_cal C_alike_holds (hr.mono (by omega)) rfl (pa_cons (pv 1) (pa_cons (pv 1) (pa_cons (pv 2) (pa_cons (pv 2) (pa_cons (pe_lst (pa_cons (pe_tup (pa_cons pe_str (pa_cons pe_int pa_nil))) pa_nil)) (pa_cons (pe_op op_cat (pe_slice (r := rSlL K) sl_list (pv 5) po_none (po_some (pv 6))) (pe_slice (r := rSlL K) sl_list (pv 5) (po_some (pe_op op_add (pv 6) pe_int)) po_none)) pa_nil)))))))))))))))), ?_⟩
    have b2 := Z.b2
    have b6 := Z.b6
    have ll : (100000000000000000000000000000000000000000000000000000000000 : Int).natAbs.log2 < 1920 := log_w (by decide)
    walk_at "rds"
    intro om hom
    have ta := same_upd (o := .tup [.str "add", .int 1]) hom
    have ea := upd_ofL (o := .tup [.str "add", .int 1]) hom
    generalize upd H om (.tup [.str "add", .int 1]) = Hm at ta ea ⊢
    walk_at "rd"
    intro oM hoM
    have tb := same_upd (o := .lst [.ref om]) hoM
    have eb := upd_ofL (o := .lst [.ref om]) hoM
    generalize upd Hm oM (.lst [.ref om]) = H0 at tb eb ⊢
    have t0 := ta.trans tb
    have mn : Mn68 H0 oM := ⟨om, eb, tb _ _ ea⟩
    clear ta tb ea eb hom hoM
    walk_at "rd"
    refine ⟨rfl, rfl, ?_⟩
    refine use_pa (Z.same t0) mn (rt.keep (Tk.of t0)) (by decide) ll (fun _ ls qs H1 hls rqs nls s1 => ?_) fun h => absurd h (by omega)
    have T1 := (T.same t0).same s1
    have Z1 := (Z.same t0).same s1
    have rt1 := (rt.keep (Tk.of t0)).keep (Tk.of s1)
    have nls0 : H ls = none := t0.free nls
    have ntl := T.net nls0
    have ngl := T.neg nls0
    clear mn
    walk_at "rd"
    intro om hom
    have ta := same_upd (o := .tup [.str "add", .int 1]) hom
    have ea := upd_ofL (o := .tup [.str "add", .int 1]) hom
    generalize upd H1 om (.tup [.str "add", .int 1]) = Hm at ta ea ⊢
    walk_at "rd"
    intro oM hoM
    have tb := same_upd (o := .lst [.ref om]) hoM
    have eb := upd_ofL (o := .lst [.ref om]) hoM
    generalize upd Hm oM (.lst [.ref om]) = H2 at tb eb ⊢
    have t0 := ta.trans tb
    have mn : Mn68 H2 oM := ⟨om, eb, tb _ _ ea⟩
    clear ta tb ea eb hom hoM
    walk_at "rd"
    refine ⟨rfl, rfl, ?_⟩
    refine use_al (Z1.same t0) mn (by decide) ll (fun _ lp qp H3 hlp rqp nlp s3 => ?_) fun h => absurd h (by omega)
    have s13 := t0.trans s3
    have T3 := T1.same s13
    have Z3 := Z1.same s13
    have rt3 := rt1.keep (Tk.of s13)
    have hls3 := s13 _ _ hls
    have rqs3 := rqs.keep (Tk.of s13)
    have ntp := T1.net (t0.free nlp)
    have ngp := T1.neg (t0.free nlp)
    have lq : qs.length = b := by rw [rqs.length]; unfold ds68; rw [List.length_map, List.length_range]
    have lp2 : qp.length = b := by rw [rqp.length]; unfold dp68; rw [List.length_map, List.length_range]
    clear mn s13 t0 s3 T1 Z1 rt1 hls rqs
    walk_at "rd"
    refine ⟨ls, qs, rfl, .inl (SqL.of hls3), ?_⟩
    rw [lq]
    walk_at "rd"
    refine use_drawB T3 (by omega) (by omega) (by omega) fun out H4 o0 ob T4 k4 => ?_
    obtain ⟨o, rfl⟩ : ∃ o : Nat, out = (o : Int) := ⟨out.toNat, by omega⟩
    have hob : o < b := by omega
    have tk4 := k4.dk T3
    have Z4 : Z68 C H4 x q us b := ⟨⟨Z3.mc.at_.kp T3 k4, Z3.mc.rp.keep tk4, Z3.mc.l8, Z3.mc.b2, Z3.mc.ok⟩, Z3.r.keep tk4, Z3.b2, Z3.b6⟩
    have rt4 := rt3.keep tk4
    have hls4 := k4 _ _ hls3 ntl ngl
    have rqs4 := rqs3.keep tk4
    have hlp4 := k4 _ _ hlp ntp ngp
    have rqp4 := rqp.keep tk4
    clear Z3 rt3 hls3 rqs3 hlp rqp T3 T4 k4 tk4
    walk_at "rd"
    intro om hom
    have ta := same_upd (o := .tup [.str "add", .int 1]) hom
    have ea := upd_ofL (o := .tup [.str "add", .int 1]) hom
    generalize upd H4 om (.tup [.str "add", .int 1]) = Hm at ta ea ⊢
    walk_at "rd"
    intro oM hoM
    have tb := same_upd (o := .lst [.ref om]) hoM
    have eb := upd_ofL (o := .lst [.ref om]) hoM
    generalize upd Hm oM (.lst [.ref om]) = H5 at tb eb ⊢
    have t0 := ta.trans tb
    have mn : Mn68 H5 oM := ⟨om, eb, tb _ _ ea⟩
    clear ta tb ea eb hom hoM
    walk_at "rd"
    refine use_ph (Z4.same t0) mn (rt4.keep (Tk.of t0)) (t0 _ _ hls4) (rqs4.keep (Tk.of t0)) (fun i hi => List.mem_range.mp hi) (by rw [List.length_range]; omega) fun H6 s6 => ?_
    rw [phR68 b2 hit68]
    have s46 := t0.trans s6
    have Z6 := Z4.same s46
    have rt6 := rt4.keep (Tk.of s46)
    have hls6 := s46 _ _ hls4
    have rqs6 := rqs4.keep (Tk.of s46)
    have hlp6 := s46 _ _ hlp4
    have rqp6 := rqp4.keep (Tk.of s46)
    clear Z4 rt4 hls4 rqs4 hlp4 rqp4 mn t0 s6 s46
    walk_at "rd"
    intro om hom
    have ta := same_upd (o := .tup [.str "add", .int 1]) hom
    have ea := upd_ofL (o := .tup [.str "add", .int 1]) hom
    generalize upd H6 om (.tup [.str "add", .int 1]) = Hm at ta ea ⊢
    walk_at "rd"
    intro oM hoM
    have tb := same_upd (o := .lst [.ref om]) hoM
    have eb := upd_ofL (o := .lst [.ref om]) hoM
    generalize upd Hm oM (.lst [.ref om]) = H7 at tb eb ⊢
    have t0 := ta.trans tb
    have mn : Mn68 H7 oM := ⟨om, eb, tb _ _ ea⟩
    clear ta tb ea eb hom hoM
    walk_at "rd"
    refine ⟨_, rfl, ?_⟩
    refine ⟨ls, qs, rfl, SqL.of (t0 _ _ hls6), fun l9 hl9 => ?_⟩
    rw [show cutV qs none (some (o : Int)) = qs.take o from cut_hi qs o]
    have s9 := same_upd (o := .lst (qs.take o)) hl9
    have e9 := upd_ofL (o := .lst (qs.take o)) hl9
    generalize upd H7 l9 (.lst (qs.take o)) = Ha at s9 e9 ⊢
    walk_at "rd"
    refine ⟨_, rfl, ?_⟩
    refine rd_nopart ?_
    refine ⟨ls, qs, rfl, SqL.of ((t0.trans s9) _ _ hls6), fun l10 hl10 => ?_⟩
    rw [show cutV qs (some ((o : Int) + 1)) none = qs.drop (o + 1) from by rw [show (o : Int) + 1 = ((o + 1 : Nat) : Int) by omega]; exact cut_lo qs (o + 1)]
    have s10 := same_upd (o := .lst (qs.drop (o + 1))) hl10
    have e10 := upd_ofL (o := .lst (qs.drop (o + 1))) hl10
    generalize upd Ha l10 (.lst (qs.drop (o + 1))) = Hb at s10 e10 ⊢
    walk_at "rd"
    refine ⟨l9, l10, _, _, rfl, rfl, s10 _ _ e9, e10, Nat.le_of_lt (small1000 (by rw [List.length_take, List.length_drop]; omega)), fun l11 hl11 => ?_⟩
    have s11 := same_upd (o := .lst (qs.take o ++ qs.drop (o + 1))) hl11
    have e11 := upd_ofL (o := .lst (qs.take o ++ qs.drop (o + 1))) hl11
    generalize upd Hb l11 (.lst (qs.take o ++ qs.drop (o + 1))) = Hc at s11 e11 ⊢
    have s911 := (s9.trans s10).trans s11
    have tA := t0.trans s911
    have lcut : (cut68 b o).length ≤ 900 := by unfold cut68; rw [List.length_append, List.length_take, List.length_drop, List.length_range]; omega
    have rcut : RpAll Hc (qs.take o ++ qs.drop (o + 1)) ((cut68 b o).map fun i => (st68 ((i : Nat) : Int)).d) := by
      unfold cut68
      rw [List.map_append, List.map_take, List.map_drop]
      exact ((rqs6.keep (Tk.of tA)).takeL o).append ((rqs6.keep (Tk.of tA)).dropL (o + 1))
    walk_at "rd"
    refine use_ph (Z6.same tA) (mn.same s911) (rt6.keep (Tk.of tA)) e11 rcut (fun i hi => (cut68_mem.mp hi).1) lcut fun H8 s8 => ?_
    rw [phR68_no hob]
    have s68 := tA.trans s8
    have Z8 := Z6.same s68
    have hlp8 := s68 _ _ hlp6
    have rqp8 := rqp6.keep (Tk.of s68)
    clear Z6 rt6 hls6 rqs6 hlp6 rqp6 mn t0 s8 s68 tA s911 s9 s10 s11 e9 e10 e11 lcut rcut
    walk_at "rd"
    intro om hom
    have ta := same_upd (o := .tup [.str "add", .int 1]) hom
    have ea := upd_ofL (o := .tup [.str "add", .int 1]) hom
    generalize upd H8 om (.tup [.str "add", .int 1]) = Hm at ta ea ⊢
    walk_at "rd"
    intro oM hoM
    have tb := same_upd (o := .lst [.ref om]) hoM
    have eb := upd_ofL (o := .lst [.ref om]) hoM
    generalize upd Hm oM (.lst [.ref om]) = H9 at tb eb ⊢
    have t0 := ta.trans tb
    have mn : Mn68 H9 oM := ⟨om, eb, tb _ _ ea⟩
    clear ta tb ea eb hom hoM
    walk_at "rd"
    refine use_ah (Z8.same t0) mn (t0 _ _ hlp8) (rqp8.keep (Tk.of t0)) (fun i hi => List.mem_range.mp hi) (by rw [List.length_range]; omega) fun H10 s10 => ?_
    rw [ahW68 b2]
    have s810 := t0.trans s10
    have Z10 := Z8.same s810
    have hlp10 := s810 _ _ hlp8
    have rqp10 := rqp8.keep (Tk.of s810)
    clear Z8 hlp8 rqp8 mn t0 s10 s810
    walk_at "rd"
    intro om hom
    have ta := same_upd (o := .tup [.str "add", .int 1]) hom
    have ea := upd_ofL (o := .tup [.str "add", .int 1]) hom
    generalize upd H10 om (.tup [.str "add", .int 1]) = Hm at ta ea ⊢
    walk_at "rd"
    intro oM hoM
    have tb := same_upd (o := .lst [.ref om]) hoM
    have eb := upd_ofL (o := .lst [.ref om]) hoM
    generalize upd Hm oM (.lst [.ref om]) = H11 at tb eb ⊢
    have t0 := ta.trans tb
    have mn : Mn68 H11 oM := ⟨om, eb, tb _ _ ea⟩
    clear ta tb ea eb hom hoM
    walk_at "rd"
    refine ⟨_, rfl, ?_⟩
    refine ⟨lp, qp, rfl, SqL.of (t0 _ _ hlp10), fun l9 hl9 => ?_⟩
    rw [show cutV qp none (some (o : Int)) = qp.take o from cut_hi qp o]
    have s9 := same_upd (o := .lst (qp.take o)) hl9
    have e9 := upd_ofL (o := .lst (qp.take o)) hl9
    generalize upd H11 l9 (.lst (qp.take o)) = Ha at s9 e9 ⊢
    walk_at "rd"
    refine ⟨_, rfl, ?_⟩
    refine rd_nopart ?_
    refine ⟨lp, qp, rfl, SqL.of ((t0.trans s9) _ _ hlp10), fun l10 hl10 => ?_⟩
    rw [show cutV qp (some ((o : Int) + 1)) none = qp.drop (o + 1) from by rw [show (o : Int) + 1 = ((o + 1 : Nat) : Int) by omega]; exact cut_lo qp (o + 1)]
    have s10 := same_upd (o := .lst (qp.drop (o + 1))) hl10
    have e10 := upd_ofL (o := .lst (qp.drop (o + 1))) hl10
    generalize upd Ha l10 (.lst (qp.drop (o + 1))) = Hb at s10 e10 ⊢
    walk_at "rd"
    refine ⟨l9, l10, _, _, rfl, rfl, s10 _ _ e9, e10, Nat.le_of_lt (small1000 (by rw [List.length_take, List.length_drop]; omega)), fun l11 hl11 => ?_⟩
    have s11 := same_upd (o := .lst (qp.take o ++ qp.drop (o + 1))) hl11
    have e11 := upd_ofL (o := .lst (qp.take o ++ qp.drop (o + 1))) hl11
    generalize upd Hb l11 (.lst (qp.take o ++ qp.drop (o + 1))) = Hc at s11 e11 ⊢
    have s911 := (s9.trans s10).trans s11
    have tA := t0.trans s911
    have lcut : (cut68 b o).length ≤ 900 := by unfold cut68; rw [List.length_append, List.length_take, List.length_drop, List.length_range]; omega
    have rcut : RpAll Hc (qp.take o ++ qp.drop (o + 1)) ((cut68 b o).map fun i => Pr.d (pr68 i)) := by
      unfold cut68
      rw [List.map_append, List.map_take, List.map_drop]
      exact ((rqp10.keep (Tk.of tA)).takeL o).append ((rqp10.keep (Tk.of tA)).dropL (o + 1))
    walk_at "rd"
    refine use_ah (Z10.same tA) (mn.same s911) e11 rcut (fun i hi => (cut68_mem.mp hi).1) lcut fun H12 s12 => ?_
    rw [ahW68_no hob]
    walk_at "rd"
    exact k _
end
open PySem PySem.Spec L2
section
variable {P : Program} {w : World} {K : PySem.W.Frag} {mg : Str → Option Value} {base : Heap}
def spLaw (K : PySem.W.Frag) : Sp := fun vs H Q _ => ∃ (a : Addr) (ns : List Int), vs = [.ref a] ∧ SqL K H a (ns.map V.int) ∧ ns.length ≤ 63 ∧ ∀ H', Q (.bl true) H'
theorem use_init {C x dx L : Addr} {us : List V} {xs : List Sg} {b : Int} {H : Hp} {Q : VK} {E : XK} (n1 : H x = none) (n2 : H dx = none) (ne : dx ≠ x) (hL : H L = some (.lst us)) (r : RpAll H us (xs.map Sg.d)) (l1 : 1 ≤ xs.length) (hl : xs.length ≤ 8) (b2 : 2 ≤ b) (hs : ∀ x ∈ xs, SgForm x ∧ sgFits x b xs.length = true)
    (h : ∀ H', MAt C H' x us b → Same H H' → Q .non H') : spInit C [.ref x, .ref L, .int b] (upd (upd H dx (.own x)) x (.ins C dx [])) Q E := by
  have n1' : upd H dx (.own x) x = none := by rw [upd_ne (Ne.symm ne)]; exact n1
  have s1 : Same H (upd (upd H dx (.own x)) x (.ins C dx [])) := (same_upd n2).trans (same_upd n1')
  refine ⟨x, dx, L, us, xs, b, rfl, upd_same, s1 _ _ hL, r.keep (Tk.of s1), l1, hl, b2, hs, fun H' m kp => h H' m fun c o e => ?_⟩
  exact kp c o (s1 c o e) (ne_of_none e n1)
theorem ok_law {f f1 C TM f_wy : Addr} {fd fd1 fd_wy : FuncData} {g1 g_wy : List Value → List Value → List Value} (B : BT mg) (T : MC K mg C) (F : Fun K "law" "law" s_law f fd) (Mk : Mk K C f1) (F_init : FnOk P w K mg base CX0 6 f1 fd1 ["self", "segments", "base"] (spInit C))
    (kb1 : KBn K fd1 ["self", "segments", "base"] 2 ["base"] g1 (fun vs zs => vs ++ zs)) (G_LIMIT : GI mg "LIMIT" 400)
    (hm_wy : mg "way" = some (.ref f_wy)) (hk_wy : PySem.W.keepIn K (.ref f_wy) = true) (F_wy : FnOk P w K mg base (L2.CX P w) 12 f_wy fd_wy ["machine", "stand", "menu", "wish", "limit"] (spWay C TM)) (kb_wy : KBn K fd_wy ["machine", "stand", "menu", "wish", "limit"] 4 ["limit"] g_wy (fun vs zs => vs ++ zs))
    (C_law_bag : Cal P w K mg base "_law_bag" 1 ["script"] (spBag K)) (C_law_draw : Cal P w K mg base "_law_draw" 1 ["bag", "many"] spDrawB) (C_first : Cal P w K mg base "first" 4 ["machine", "ring"] (spFirst0 C))
    (C_law_told : Cal P w K mg base "_law_told" 15 ["kind", "scene", "seat", "target", "most"] (spTold68 C)) (C_law_held : Cal P w K mg base "_law_held" 14 ["bag", "scene", "seat", "target"] (spHeld C)) :
    FnOk P w K mg base CX0 16 f fd ["script"] (spLaw K) := by
  refine F.ok sc_law (fun vs H Q E h => ?_) (fun cdv A outer s H vs Q E hr h => ?_)
  · obtain ⟨a, ns, rfl, _⟩ := h
    rfl
  · obtain ⟨a, ns, rfl, hS0, hl, k⟩ := h
    refine ⟨_, (pss_cons (ps_set (i := 1) sc_law.nd rfl (Or.inl rfl) (pe_cal C_law_bag (hr.mono (by omega)) rfl (pa_cons (pv 0) pa_nil)))
 (pss_cons (ps_set (i := 2) sc_law.nd rfl (Or.inl rfl) (pe_ix (r := rIxL K) ix_list (pe_lst (pa_cons (pe_op op_add pe_int (pe_cal C_law_draw (hr.mono (by omega)) rfl (pa_cons (pv 1) (pa_cons pe_int pa_nil)))) (pa_cons (pe_op op_add pe_int (pe_cal C_law_draw (hr.mono (by omega)) rfl (pa_cons (pv 1) (pa_cons pe_int pa_nil)))) (pa_cons (pe_op op_add pe_int (pe_cal C_law_draw (hr.mono (by omega)) rfl (pa_cons (pv 1) (pa_cons pe_int pa_nil)))) pa_nil)))) (pe_cal C_law_draw (hr.mono (by omega)) rfl (pa_cons (pv 1) (pa_cons pe_int pa_nil))) (fun _ _ => rfl)))
 (pss_cons (ps_set (i := 3) sc_law.nd rfl (Or.inl rfl) (pe_makeK Mk F_init (hr.mono (by omega)) rfl T.mgC kb1 pass0 (pa_cons (pe_lst (pa_cons (pe_tup (pa_cons (pe_tup (pa_cons pe_int (pa_cons pe_int (pa_cons pe_int pa_nil)))) (pa_cons pe_str (pa_cons pe_int (pa_cons (pe_tup (pa_cons (pe_tup (pa_cons pe_str (pa_cons pe_int pa_nil))) pa_nil)) (pa_cons (pe_tup pa_nil) pa_nil)))))) pa_nil)) pa_nil) (pk_cons (pv 2) pk_nil)))
 (pss_cons (ps_set (i := 4) sc_law.nd rfl (Or.inl rfl) (pe_cal C_first (hr.mono (by omega)) rfl (pa_cons (pv 3) (pa_cons pe_int pa_nil))))
 (pss_cons (ps_set (i := 5) sc_law.nd rfl (Or.inl rfl) (pe_lst (pa_cons pe_non (pa_cons (pv 2) (pa_cons (pe_op op_sub (pv 2) pe_int) (pa_cons (pe_op op_add (pv 2) pe_int) (pa_cons (pe_op op_add pe_int (pe_cal C_law_draw (hr.mono (by omega)) rfl (pa_cons (pv 1) (pa_cons pe_int pa_nil)))) pa_nil)))))))
 (pss_cons (ps_if (PW.pt (pw_or (pt_cmpR op_ne (pe_gi G_LIMIT rfl) pe_int (nomark _)) (pw_or1 (pt_cmpR (r := rNeD K) (op_neD hr.units) (pe_callN F_wy (hr.mono (by omega)) rfl hm_wy hk_wy kb_wy pass1 (pa_cons (pv 3) (pa_cons (pv 4) (pa_cons (pe_lst (pa_cons (pe_tup (pa_cons pe_str (pa_cons pe_int pa_nil))) pa_nil)) (pa_cons (pe_tup (pa_cons pe_int (pa_cons pe_int (pa_cons (pe_tup (pa_cons pe_str (pa_cons pe_int pa_nil))) pa_nil)))) pa_nil)))) (pk_cons pe_int pk_nil)) (pe_lst pa_nil) (nomark _))))) (pss_one (ps_ret pe_bl)) pss_nil)
 (pss_cons (ps_for PassesOwn.never rfl (pi_range1 rfl B.g_range (pa_cons pe_int pa_nil)) (pg_name (i := 6) sc_law.nd rfl (Or.inl rfl))
 (pss_one (ps_for PassesOwn.never rfl (pi_listK (K := K) (pe_lst (pa_cons pe_non (pa_cons (pe_ix (r := rIxL K) ix_list (pv 5) (pe_op op_add pe_int (pe_cal C_law_draw (hr.mono (by omega)) rfl (pa_cons (pv 1) (pa_cons pe_int pa_nil)))) (fun _ _ => rfl)) pa_nil)))) (pg_name (i := 7) sc_law.nd rfl (Or.inl rfl))
 (pss_cons (ps_set (i := 8) sc_law.nd rfl (Or.inl rfl) (pe_ifExp (pt_cmpR op_isN (pv 7) pe_non (nomark _)) pe_int (pv 7)))
 (pss_cons (ps_set (i := 9) sc_law.nd rfl (Or.inl rfl) (pe_ix (r := rIxL K) ix_list (pe_lst (pa_cons (pv 2) (pa_cons pe_non (pa_cons (pv 2) (pa_cons pe_non (pa_cons (pv 2) pa_nil)))))) (pv 6) (fun _ _ => rfl)))
 (pss_cons (ps_if (pt_cmpR op_gt (pv 2) (pv 8) (nomark _)) (pss_one (ps_set (i := 9) sc_law.nd rfl (Or.inl rfl) (pe_tup (pa_cons pe_str (pa_cons (pv 8) pa_nil))))) pss_nil)
 (pss_one (ps_if (pt_cmpR (r := rNeD K) (op_neD hr.units) (pe_cal C_law_told (hr.mono (by omega)) rfl (pa_cons (pv 6) (pa_cons (pv 3) (pa_cons (pv 4) (pa_cons (pe_tup (pa_cons pe_int (pa_cons pe_int (pa_cons (pe_tup (pa_cons pe_str (pa_cons pe_int pa_nil))) pa_nil)))) (pa_cons (pv 7) pa_nil)))))) (pv 9) (nomark _)) (pss_one (ps_ret pe_bl)) pss_nil))))))))
 (pss_one (ps_ret (pe_cal C_law_held (hr.mono (by omega)) rfl (pa_cons (pv 1) (pa_cons (pv 3) (pa_cons (pv 4) (pa_cons (pe_tup (pa_cons pe_int (pa_cons pe_int (pa_cons (pe_tup (pa_cons pe_str (pa_cons pe_int pa_nil))) pa_nil)))) pa_nil)))))))))))))), ?_⟩
    walk_at "rds"
    refine ⟨a, ns, rfl, hS0, hl, fun t g H1 s1 nt ng T1 => ?_⟩
    walk_at "rd"
    refine use_drawB T1 (by omega) (by decide) (by decide) fun r1 H2 a1 b1 T2 k2 => ?_
    walk_at "rd"
    refine use_drawB T2 (by omega) (by decide) (by decide) fun r2 H3 a2 b2 T3 k3 => ?_
    walk_at "rd"
    refine use_drawB T3 (by omega) (by decide) (by decide) fun r3 H4 a3 b3 T4 k4 => ?_
    walk_at "rd"
    intro p0 hp0
    have t0 := same_upd (o := .lst [.int (390 + r1), .int (400 + r2), .int (2 + r3)]) hp0
    have f0 := upd_ofL (o := .lst [.int (390 + r1), .int (400 + r2), .int (2 + r3)]) hp0
    have nt0 := T4.net hp0
    have ng0 := T4.neg hp0
    generalize upd H4 p0 (.lst [.int (390 + r1), .int (400 + r2), .int (2 + r3)]) = H5 at t0 f0 ⊢
    have T5 := T4.same t0
    walk_at "rd"
    refine use_drawB T5 (by omega) (by decide) (by decide) fun r4 H6 a4 b4 T6 k6 => ?_
    obtain ⟨b, eb, hb2, hb6⟩ : ∃ b : Nat, atI [V.int (390 + r1), .int (400 + r2), .int (2 + r3)] r4 = some (.int (b : Int)) ∧ 2 ≤ b ∧ b ≤ 700 := by
      rcases (show r4 = 0 ∨ r4 = 1 ∨ r4 = 2 by omega) with h | h | h <;> subst h
      · exact ⟨(390 + r1).toNat, by rw [Int.toNat_of_nonneg (by omega)]; rfl, by omega, by omega⟩
      · exact ⟨(400 + r2).toNat, by rw [Int.toNat_of_nonneg (by omega)]; rfl, by omega, by omega⟩
      · exact ⟨(2 + r3).toNat, by rw [Int.toNat_of_nonneg (by omega)]; rfl, by omega, by omega⟩
    refine rd_ixL (k6 _ _ f0 nt0 ng0) eb ?_
    clear s1 T1 k2 T2 k3 T3 k4 T4 t0 f0 T5 k6 hp0 nt0 ng0 eb
    walk_at "rd"
    intro o1 ho1
    have to1 := same_upd (o := .tup [.int 7, .int 7, .int 7]) ho1
    have fo1 := upd_ofL (o := .tup [.int 7, .int 7, .int 7]) ho1
    generalize upd H6 o1 (.tup [.int 7, .int 7, .int 7]) = Ha at to1 fo1 ⊢
    walk_at "rd"
    intro o2 ho2
    have to2 := same_upd (o := .tup [.str "num", .int 1]) ho2
    have fo2 := upd_ofL (o := .tup [.str "num", .int 1]) ho2
    generalize upd Ha o2 (.tup [.str "num", .int 1]) = Hb at to2 fo2 ⊢
    walk_at "rd"
    intro o3 ho3
    have to3 := same_upd (o := .tup [.ref o2]) ho3
    have fo3 := upd_ofL (o := .tup [.ref o2]) ho3
    generalize upd Hb o3 (.tup [.ref o2]) = Hc at to3 fo3 ⊢
    walk_at "rd"
    intro o4 ho4
    have to4 := same_upd (o := .tup []) ho4
    have fo4 := upd_ofL (o := .tup []) ho4
    generalize upd Hc o4 (.tup []) = Hd at to4 fo4 ⊢
    walk_at "rd"
    intro o5 ho5
    have to5 := same_upd (o := .tup [.ref o1, .str "rw", .int 0, .ref o3, .ref o4]) ho5
    have fo5 := upd_ofL (o := .tup [.ref o1, .str "rw", .int 0, .ref o3, .ref o4]) ho5
    generalize upd Hd o5 (.tup [.ref o1, .str "rw", .int 0, .ref o3, .ref o4]) = He at to5 fo5 ⊢
    walk_at "rd"
    intro o6 ho6
    have to6 := same_upd (o := .lst [.ref o5]) ho6
    have fo6 := upd_ofL (o := .lst [.ref o5]) ho6
    generalize upd He o6 (.lst [.ref o5]) = Hf at to6 fo6 ⊢
    walk_at "rd"
    have tA := (((((to1.trans to2).trans to3).trans to4).trans to5).trans to6)
    have rp : RpAll Hf [.ref o5] (xs68.map Sg.d) := .cons (.tup (to6 _ _ fo5) (.cons (.tup (((((to2.trans to3).trans to4).trans to5).trans to6) _ _ fo1) (.cons (.int _) (.cons (.int _) (.cons (.int _) .nil)))) (.cons (.str _) (.cons (.int _) (.cons (.tup (((to4.trans to5).trans to6) _ _ fo3) (.cons (.tup ((((to3.trans to4).trans to5).trans to6) _ _ fo2) (.cons (.str _) (.cons (.int _) .nil))) .nil)) (.cons (.tup ((to5.trans to6) _ _ fo4) .nil) .nil)))))) .nil
    refine ⟨rfl, rfl, fun x dx nx ndx ne => ?_⟩
    have hs : ∀ z ∈ xs68, SgForm z ∧ sgFits z (b : Int) xs68.length = true := ok68 (by omega)
    refine use_init nx ndx ne fo6 rp (by decide) (by decide) (by omega) hs fun H7 m7 s7 => ⟨rfl, ?_⟩
    have Mc : Mch C H7 x [.ref o5] xs68 (b : Int) := ⟨m7, rp.keep (Tk.of s7), by decide, by omega, hs⟩
    have T7 := T6.same (tA.trans s7)
    clear to1 to2 to3 to4 to5 to6 fo1 fo2 fo3 fo4 fo5 fo6 ho1 ho2 ho3 ho4 ho5 ho6 T6 rp tA m7 s7 nx ndx ne
    walk_at "rd"
    refine ⟨x, _, xs68, b, 7, rfl, Mc.at_, Mc.rp, by decide, by decide, by decide, fun v0 H8 s8 rv0 => ?_⟩
    obtain ⟨q, vq, rfl, _⟩ := id rv0.tup_inv
    have Z8 : Z68 C H8 x q [.ref o5] b := ⟨⟨Mc.at_.same s8, Mc.rp.keep (Tk.of s8), Mc.l8, Mc.b2, Mc.ok⟩, rv0, hb2, hb6⟩
    have T8 := T7.same s8
    clear Mc T7 s8 rv0
    walk_at "rd"
    refine use_drawB T8 (by omega) (by decide) (by decide) fun r5 H9 a5 b5 T9 k9 => ?_
    have Z9 : Z68 C H9 x q [.ref o5] b := ⟨⟨Z8.mc.at_.kp T8 k9, Z8.mc.rp.keep (k9.dk T8), Z8.mc.l8, Z8.mc.b2, Z8.mc.ok⟩, Z8.r.keep (k9.dk T8), hb2, hb6⟩
    walk_at "rd"
    intro So hSo
    have tS := same_upd (o := .lst [.non, .int (b : Int), .int ((b : Int) - 1), .int ((b : Int) + 1), .int (1 + r5)]) hSo
    have eS := upd_ofL (o := .lst [.non, .int (b : Int), .int ((b : Int) - 1), .int ((b : Int) + 1), .int (1 + r5)]) hSo
    have ntS := T9.net hSo
    have ngS := T9.neg hSo
    generalize upd H9 So (.lst [.non, .int (b : Int), .int ((b : Int) - 1), .int ((b : Int) + 1), .int (1 + r5)]) = H10 at tS eS ⊢
    have T10 := T9.same tS
    have Z10 := Z9.same tS
    clear tS T9 Z9 T8 Z8 k9 hSo
    walk_at "rd"
    rw [if_neg (show ¬ (!decide (V.int 400 = V.int 400)) = true by rw [decide_eq_true rfl]; decide)]
    walk_at "rd"
    intro m1 hm1
    have tm1 := same_upd (o := .tup [.str "add", .int 1]) hm1
    have fm1 := upd_ofL (o := .tup [.str "add", .int 1]) hm1
    generalize upd H10 m1 (.tup [.str "add", .int 1]) = Ha at tm1 fm1 ⊢
    walk_at "rd"
    intro m2 hm2
    have tm2 := same_upd (o := .lst [.ref m1]) hm2
    have fm2 := upd_ofL (o := .lst [.ref m1]) hm2
    generalize upd Ha m2 (.lst [.ref m1]) = Hb at tm2 fm2 ⊢
    walk_at "rd"
    intro m3 hm3
    have tm3 := same_upd (o := .tup [.str "num", .int 1]) hm3
    have fm3 := upd_ofL (o := .tup [.str "num", .int 1]) hm3
    generalize upd Hb m3 (.tup [.str "num", .int 1]) = Hc at tm3 fm3 ⊢
    walk_at "rd"
    intro m4 hm4
    have tm4 := same_upd (o := .tup [.int 0, .int 0, .ref m3]) hm4
    have fm4 := upd_ofL (o := .tup [.int 0, .int 0, .ref m3]) hm4
    generalize upd Hc m4 (.tup [.int 0, .int 0, .ref m3]) = Hd at tm4 fm4 ⊢
    walk_at "rd"
    refine ⟨rfl, rfl, ?_⟩
    have tA := ((tm1.trans tm2).trans tm3).trans tm4
    refine use_wy1 (Z10.same tA) ⟨m1, (tm3.trans tm4) _ _ fm2, ((tm2.trans tm3).trans tm4) _ _ fm1⟩ (.tup fm4 (.cons (.int _) (.cons (.int _) (.cons (.tup (tm4 _ _ fm3) (.cons (.str _) (.cons (.int _) .nil))) .nil)))) (by decide) (by decide) fun wl H11 hwl s11 => ?_
    walk_at "rd"
    intro oe hoe
    have te := same_upd (o := .lst []) hoe
    refine rd_neD (d := .list []) (e := .list []) (.lst (SqL.of (te _ _ hwl)) .nil) (.lst (SqL.of upd_same) .nil) rfl rfl ?_
    rw [show PyData.eqv (.list []) (.list []) = true from rfl]
    refine ⟨_, rfl, ?_⟩
    have tB := (tA.trans s11).trans te
    have T12 := T10.same tB
    have Z12 := Z10.same tB
    have eS12 := tB _ _ eS
    generalize upd H11 oe (.lst []) = H12 at T12 Z12 eS12 ⊢
    clear tB te s11 hwl tA tm1 tm2 tm3 tm4 fm1 fm2 fm3 fm4 hm1 hm2 hm3 hm4 T10 Z10 eS hoe
    walk_at "rd"
    simp only [List.map_cons, List.map_nil, List.cons_append, List.nil_append, List.length_cons, List.length_nil, Nat.reduceAdd, Nat.reduceSub, List.replicate_succ, List.replicate_zero, List.set_cons_succ, List.set_cons_zero]
    refine ⟨5, rfl, by decide, by decide, ?_⟩
    refine for_inv (walk_range (n := (5 : Int).toNat)) (fun i σ' H' => ∃ c6 c7 c8 c9 : Option V, σ' = [some (.ref a), some (.ref t), some (.int (b : Int)), some (.ref x), some (.ref q), some (.ref So), c6, c7, c8, c9] ∧ H' So = some (.lst [.non, .int (b : Int), .int ((b : Int) - 1), .int ((b : Int) + 1), .int (1 + r5)]) ∧ Z68 C H' x q [.ref o5] b ∧ Deck H' t g (100 + 10 * i))
      ⟨_, _, _, _, rfl, eS12, Z12, T12.mono (by omega)⟩ (fun _ _ _ _ _ => trivial) ?_ ?_
    rotate_left
    · rintro σ1 He ⟨c6, c7, c8, c9, rfl, eS, Z, Te⟩
      walk_at "rd"
      intro m3 hm3
      have tm3 := same_upd (o := .tup [.str "num", .int 0]) hm3
      have fm3 := upd_ofL (o := .tup [.str "num", .int 0]) hm3
      generalize upd He m3 (.tup [.str "num", .int 0]) = Ha at tm3 fm3 ⊢
      walk_at "rd"
      intro m4 hm4
      have tm4 := same_upd (o := .tup [.int 0, .int 0, .ref m3]) hm4
      have fm4 := upd_ofL (o := .tup [.int 0, .int 0, .ref m3]) hm4
      generalize upd Ha m4 (.tup [.int 0, .int 0, .ref m3]) = Hb at tm4 fm4 ⊢
      walk_at "rd"
      have tA := tm3.trans tm4
      exact ⟨t, g, _, x, q, .ref m4, [.ref o5], b, rfl, (Te.same tA).mono (Nat.le_refl _), by show 100 + 10 * 5 ≤ 500000; decide, Z.same tA, .tup fm4 (.cons (.int _) (.cons (.int _) (.cons (.tup (tm4 _ _ fm3) (.cons (.str _) (.cons (.int _) .nil))) .nil))), fun H' => k _⟩
    · clear eS12 Z12 T12
      rintro B2 i y σ1 Ha Hb hi ⟨c6, c7, c8, c9, rfl, eS, Z, Ta⟩ ⟨rfl, rfl⟩
      have i5 : i < 5 := hi
      walk_at "rd"
      refine use_drawB Ta (by omega) (by decide) (by decide) fun rl Hc l0 l4 Tc kc => ?_
      have Zc : Z68 C Hc x q [.ref o5] b := ⟨⟨Z.mc.at_.kp Ta kc, Z.mc.rp.keep (kc.dk Ta), Z.mc.l8, Z.mc.b2, Z.mc.ok⟩, Z.r.keep (kc.dk Ta), hb2, hb6⟩
      have eSc := kc _ _ eS ntS ngS
      obtain ⟨l, el, hl1, hl2⟩ : ∃ l : Int, atI [V.non, .int (b : Int), .int ((b : Int) - 1), .int ((b : Int) + 1), .int (1 + r5)] (1 + rl) = some (.int l) ∧ 1 ≤ l ∧ l ≤ 900 := by
        rcases (show rl = 0 ∨ rl = 1 ∨ rl = 2 ∨ rl = 3 by omega) with h | h | h | h <;> subst h
        · exact ⟨_, rfl, by omega, by omega⟩
        · exact ⟨_, rfl, by omega, by omega⟩
        · exact ⟨_, rfl, by omega, by omega⟩
        · exact ⟨_, rfl, by omega, by omega⟩
      walk_at "rd"
      refine rd_ixL eSc el ?_
      clear eS Z Ta kc el
      walk_at "rd"
      intro pl hpl
      have tl := same_upd (o := .lst [.non, .int l]) hpl
      have epl := upd_ofL (o := .lst [.non, .int l]) hpl
      have ntl := Tc.net hpl
      have ngl := Tc.neg hpl
      generalize upd Hc pl (.lst [.non, .int l]) = Hd at tl epl ⊢
      have Td := Tc.same tl
      have Zd := Zc.same tl
      have eSd := tl _ _ eSc
      clear Tc Zc eSc tl hpl
      walk_at "rd"
      simp only [List.map_cons, List.map_nil, List.cons_append, List.nil_append, List.length_cons, List.length_nil, Nat.reduceAdd, Nat.reduceSub, List.replicate_succ, List.replicate_zero, List.set_cons_succ, List.set_cons_zero]
      refine ⟨pl, rfl, ⟨_, SqL.of epl⟩, ?_⟩
      rw [Int.zero_add]
      refine for_inv (walk_list (xs := [V.non, .int l])) (fun j σ' H' => ∃ c7 c8 c9 : Option V, σ' = [some (.ref a), some (.ref t), some (.int (b : Int)), some (.ref x), some (.ref q), some (.ref So), some (.int (i : Int)), c7, c8, c9] ∧ H' So = some (.lst [.non, .int (b : Int), .int ((b : Int) - 1), .int ((b : Int) + 1), .int (1 + r5)]) ∧ H' pl = some (.lst [.non, .int l]) ∧ Z68 C H' x q [.ref o5] b ∧ Deck H' t g (100 + 10 * i + 5))
        ⟨_, _, _, rfl, eSd, epl, Zd, Td.mono (by omega)⟩ (fun j σ' H' _ p => by obtain ⟨_, _, _, _, _, p, _⟩ := p; exact SqL.of p) ?_ ?_
      rotate_left
      · rintro σ2 He ⟨c7, c8, c9, rfl, eS, _, Z, Te⟩
        exact ⟨_, _, _, _, rfl, eS, Z, Te.mono (by omega)⟩
      rintro B3 j y σ2 He Hf hj ⟨c7, c8, c9, rfl, eS, epl2, Z, Te⟩ ⟨rfl, hy⟩
      obtain ⟨lo, rfl, hlo1, hlo2⟩ : ∃ lo : Option Int, y = limV lo ∧ 1 ≤ lo.getD 400 ∧ lo.getD 400 ≤ 900 := by
        rcases (show j = 0 ∨ j = 1 by have := (List.getElem?_eq_some_iff.mp hy).1; simp at this; omega) with h | h <;> subst h
        · cases hy; exact ⟨none, rfl, by decide, by decide⟩
        · cases hy; exact ⟨some l, rfl, hl1, hl2⟩
      refine rd_name ?_
      simp only [List.map_cons, List.map_nil, List.cons_append, List.nil_append, List.length_cons, List.length_nil, Nat.reduceAdd, Nat.reduceSub, List.replicate_succ, List.replicate_zero, List.set_cons_succ, List.set_cons_zero]
      refine rd_seqJ (fun σ' H' => σ' = [some (.ref a), some (.ref t), some (.int (b : Int)), some (.ref x), some (.ref q), some (.ref So), some (.int (i : Int)), some (limV lo), some (.int (lo.getD 400)), c9] ∧ H' = Hf) (fun R hR => ?_) ?_
      · cases lo with
        | none =>
          walk_at "rd"
          refine rd_tif ?_
          walk_at "rd"
          refine ⟨rfl, _, rfl, ?_⟩
          refine rd_ifT rfl ?_
          walk_at "rd"
          exact hR _ _ ⟨rfl, rfl⟩
        | some z =>
          walk_at "rd"
          refine rd_tif ?_
          walk_at "rd"
          refine ⟨rfl, _, rfl, ?_⟩
          refine rd_ifF (fun z => nomatch z) ?_
          walk_at "rd"
          exact hR _ _ ⟨rfl, rfl⟩
      rintro σ3 Hg ⟨rfl, rfl⟩
      walk_at "rd"
      intro od hod
      have td := same_upd (o := .lst [.int (b : Int), .non, .int (b : Int), .non, .int (b : Int)]) hod
      have ed := upd_ofL (o := .lst [.int (b : Int), .non, .int (b : Int), .non, .int (b : Int)]) hod
      generalize upd Hg od (.lst [.int (b : Int), .non, .int (b : Int), .non, .int (b : Int)]) = Hh at td ed ⊢
      walk_at "rd"
      have eix : atI [V.int (b : Int), .non, .int (b : Int), .non, .int (b : Int)] (i : Int) = some (res68 (i : Int) b) := by
        rcases (show i = 0 ∨ i = 1 ∨ i = 2 ∨ i = 3 ∨ i = 4 by omega) with h | h | h | h | h <;> subst h <;> rfl
      refine rd_ixL ed eix ?_
      have Th := Te.same td
      have Zh := Z.same td
      have eSh := td _ _ eS
      have eplh := td _ _ epl2
      clear Te Z eS epl2 td ed hod eix
      refine rd_name ?_
      simp only [List.map_cons, List.map_nil, List.cons_append, List.nil_append, List.length_cons, List.length_nil, Nat.reduceAdd, Nat.reduceSub, List.replicate_succ, List.replicate_zero, List.set_cons_succ, List.set_cons_zero]
      refine rd_seqJ (fun σ' H' => ∃ du : V, σ' = [some (.ref a), some (.ref t), some (.int (b : Int)), some (.ref x), some (.ref q), some (.ref So), some (.int (i : Int)), some (limV lo), some (.int (lo.getD 400)), some du] ∧ (((b : Int) ≤ lo.getD 400 ∧ du = res68 (i : Int) b) ∨ (lo.getD 400 < (b : Int) ∧ ∃ p, du = .ref p ∧ H' p = some (.tup [.str "TooMany", .int (lo.getD 400)]))) ∧ Same Hh H') (fun R hR => ?_) ?_
      · walk_at "rd"
        refine rd_ifd (fun c => ?_) (fun c => ?_)
        · walk_at "rd"
          intro op hop
          exact hR _ _ ⟨.ref op, rfl, .inr ⟨c, op, rfl, upd_same⟩, same_upd hop⟩
        · walk_at "rd"
          exact hR _ _ ⟨_, rfl, .inl ⟨by omega, rfl⟩, Same.refl _⟩
      rintro σ4 Hi ⟨du, rfl, hdu, ti⟩
      walk_at "rd"
      intro m3 hm3
      have tm3 := same_upd (o := .tup [.str "num", .int 0]) hm3
      have fm3 := upd_ofL (o := .tup [.str "num", .int 0]) hm3
      generalize upd Hi m3 (.tup [.str "num", .int 0]) = Hj at tm3 fm3 ⊢
      walk_at "rd"
      intro m4 hm4
      have tm4 := same_upd (o := .tup [.int 0, .int 0, .ref m3]) hm4
      have fm4 := upd_ofL (o := .tup [.int 0, .int 0, .ref m3]) hm4
      generalize upd Hj m4 (.tup [.int 0, .int 0, .ref m3]) = Hk at tm4 fm4 ⊢
      walk_at "rd"
      have tA := (ti.trans tm3).trans tm4
      refine ⟨(i : Int), x, q, .ref m4, [.ref o5], b, lo, rfl, by omega, by omega, Zh.same tA, .tup fm4 (.cons (.int _) (.cons (.int _) (.cons (.tup (tm4 _ _ fm3) (.cons (.str _) (.cons (.int _) .nil))) .nil))), hlo1, log_w (by omega), fun hb H' sb => ?_, fun hb p H' hp sb => ?_⟩
      · have tB := tA.trans sb
        rcases hdu with ⟨_, rfl⟩ | ⟨h, _⟩
        case inr => omega
        obtain ⟨dd, rdd, ldd, sdd⟩ : ∃ dd, Rp H' (res68 (i : Int) b) dd ∧ dd.canLay0 = true ∧ SeqAt.shaped dd = true := by
          unfold res68
          split
          · exact ⟨.none, .non, rfl, rfl⟩
          · exact ⟨.int b, .int _, rfl, rfl⟩
        walk_at "rd"
        refine rd_neD (d := dd) (e := dd) rdd.dp rdd.dp sdd sdd ?_
        rw [SeqAt.eqv_refl _ ldd]
        refine ⟨_, rfl, ?_⟩
        walk_at "rd"
        exact ⟨_, _, _, rfl, tB _ _ eSh, tB _ _ eplh, Zh.same tB, Th.same tB⟩
      · have tB := tA.trans sb
        rcases hdu with ⟨h, _⟩ | ⟨_, p2, rfl, hp2⟩
        case inl => omega
        have lt : (PyData.tuple [.str "TooMany", .int (lo.getD 400)]).canLay0 = true := by
          show (PyData.canLay0 (.str "TooMany") && (true && true)) = true
          decide +kernel
        have st : SeqAt.shaped (.tuple [.str "TooMany", .int (lo.getD 400)]) = true := shaped_of (j := 2) lt ⟨by show 2 ≤ 1000000; decide, fun e he => by
          rcases List.mem_cons.mp he with rfl | he
          · trivial
          · rw [List.mem_singleton.mp he]; trivial⟩ (by decide)
        walk_at "rd"
        refine rd_neD (d := .tuple [.str "TooMany", .int (lo.getD 400)]) (e := .tuple [.str "TooMany", .int (lo.getD 400)]) (.tup (SqT.of hp) (.cons (.str _) (.cons (.int _) .nil))) (.tup (SqT.of (((tm3.trans tm4).trans sb) _ _ hp2)) (.cons (.str _) (.cons (.int _) .nil))) st st ?_
        rw [SeqAt.eqv_refl _ lt]
        refine ⟨_, rfl, ?_⟩
        walk_at "rd"
        exact ⟨_, _, _, rfl, tB _ _ eSh, tB _ _ eplh, Zh.same tB, Th.same tB⟩
end
open PySem PySem.Spec L2
section
variable {P : Program} {w : World} {K : PySem.W.Frag} {mg : Str → Option Value} {base : Heap}
def okF (_ : List Sg) (ns : List Int) : Prop := ∃ q p w, ns = [q, p, w] ∧ 0 ≤ q ∧ q < 4 ∧ 0 ≤ p ∧ p < 4
def okA (xs : List Sg) (ns : List Int) : Prop := ∃ q g w, ns = [q, g, w] ∧ 0 ≤ q ∧ q < 4 ∧ 0 ≤ g ∧ g < (xs.length : Int)
theorem read_seg {xs : List Sg} {s s' : Rn} {p w e g : Int} {wd : Wd} (wf : WF xs s) (p0 : 0 ≤ p) (p4 : p < 4) (h : readR xs s p w = .ok (wd, e, g, s')) : 0 ≤ g ∧ g < (xs.length : Int) := by
  unfold readR at h
  cases hs : spotR s p w with
  | error c => rw [hs] at h; cases h
  | ok z =>
    obtain ⟨e1, g1, pl⟩ := z
    rw [hs] at h
    dsimp only at h
    by_cases hc : mRead (sgAt xs g1) e1 = true
    · rw [if_pos hc] at h
      cases h
      obtain ⟨a, b, _⟩ := spot_in wf p0 p4 hs
      exact ⟨a, b⟩
    · rw [if_neg hc] at h
      cases h
theorem read_ptl {xs : List Sg} {s s' : Rn} {p w e g : Int} {wd : Wd} (h : readR xs s p w = .ok (wd, e, g, s')) : s'.pt.length = s.pt.length := by
  unfold readR at h
  cases hs : spotR s p w with
  | error c => rw [hs] at h; cases h
  | ok z =>
    obtain ⟨e1, g1, pl⟩ := z
    rw [hs] at h
    dsimp only at h
    by_cases hc : mRead (sgAt xs g1) e1 = true
    · rw [if_pos hc] at h
      cases h
      rfl
    · rw [if_neg hc] at h
      cases h
/-- pointer q is put -/
theorem pt_put {CR : Addr} {H1 : Hp} {x m : Addr} {hand : Int} {s : Rn} {dx lp lm lc ls lt : Addr} {as : List Addr} {vw : V} {v : List V} {u : V} {y : Pt} {q : Int} (r : RA CR H1 x dx m hand lp lm lc ls lt as vw s) (hv : H1 lp = some (.lst v)) (rv : RpAll H1 v (s.pt.map ptD)) (ru : Rp H1 u (ptD y)) :
    RA CR (upd H1 lp (.lst (v.set q.toNat u))) x dx m hand lp lm lc ls lt as vw (s.ptrSet q y) := by
  have h : RpAll H1 (v.set q.toNat u) ((s.pt.set q.toNat y).map ptD) := by
    rw [List.map_set]
    exact RpAll.set ru q.toNat rv
  exact r.setP h
theorem ok_fetch {f C CR CF : Addr} {fd : FuncData} (B : BT mg) (TM : MC K mg C) (T : RCl K mg CR) (Fc : FltC P w K mg base CF) (F : Fun K "do_fetch" "do_fetch" s_do_fetch f fd) (M_read : MthX P w K mg base CR "read" 5 ["self", "p", "w"] (spRead C CR CF)) (M_seg : Mth P w K mg base C "segment" 3 ["self", "number"] (spSegAt C)) : FnOk P w K mg base (L2N.CX P w) 6 f fd ["run", "q", "p", "w"] (spDo C CR CF (fun xs _ s ns => rFetch xs s (one ns) (two ns) (three ns)) okF) := by
  refine Fun.okN F sc_do_fetch (fun vs H Q E h => ?_) (fun cdv A outer s H vs Q E hr h => ?_)
  · obtain ⟨H0, x, m, us, xs, b, hand, s, ns, rfl, _, _, _, ⟨q, p, w, rfl, _⟩, _⟩ := h
    rfl
  · obtain ⟨H0, x, m, us, xs, b, hand, s, ns, rfl, Mc, R, wf, ⟨q, p, w, rfl, q0, q4, p0, p4⟩, k⟩ := h
    replace k : RunEnd CR CF Q E H0 H x m hand (rFetch xs s q p w) := k
    refine ⟨_, (pss_cons (ps_asg (pe_mthE (E := E) M_read T.cl (hr.mono (by omega)) (L2N.takes_of rfl rfl rfl rfl) (pv 0) (pa_cons (pv 2) (pa_cons (pv 3) pa_nil))) (pg_tup (by rfl) (pgs_cons (pg_name (i := 4) sc_do_fetch.nd rfl (Or.inl rfl)) (pgs_cons (pg_name (i := 5) sc_do_fetch.nd rfl (Or.inl rfl)) (pgs_cons (pg_name (i := 6) sc_do_fetch.nd rfl (Or.inl rfl)) pgs_nil)))))
 (pss_cons (ps_if (pt_cmpR op_ne (pe_ix (r := rIxT K) ix_tup (pv 4) pe_int (fun _ _ => rfl)) pe_str (nomark _)) (pss_one (ps_fault Fc rfl (L2N.takes_of rfl rfl rfl rfl) (hr.mono (by omega)) rfl pe_str)) pss_nil)
 (pss_cons (ps_asg (pv 4) (pg_tup (by rfl) (pgs_cons (pg_name (i := 7) sc_do_fetch.nd rfl (Or.inl rfl)) (pgs_cons (pg_name (i := 8) sc_do_fetch.nd rfl (Or.inl rfl)) (pgs_cons (pg_name (i := 9) sc_do_fetch.nd rfl (Or.inl rfl)) (pgs_cons (pg_name (i := 10) sc_do_fetch.nd rfl (Or.inl rfl)) pgs_nil))))))
 (pss_cons (ps_set (i := 11) sc_do_fetch.nd rfl (Or.inl rfl) (pe_ix (r := rIxT K) ix_tup (pe_ix (r := rIxT K) ix_tup (pe_mth M_seg TM.cl (hr.mono (by omega)) (pe_fldK (K := K) (pv 0) rfl) (pa_cons (pv 6) pa_nil)) pe_int (fun _ _ => rfl)) pe_int (fun _ _ => rfl)))
 (pss_one (ps_asg (pe_tup (pa_cons (pe_callB (r := rNuC3 nuMax3) (call_max3Nu rfl) rfl B.g_max (by decide +kernel) (pa_cons (pv 8) (pa_cons (pv 5) (pa_cons (pv 11) pa_nil)))) (pa_cons (pv 9) (pa_cons (pv 10) pa_nil)))) (pg_sub (pe_fldK (K := K) (pv 0) rfl) (pv 1) set_list))))))), ?_⟩
    obtain ⟨dx, lp, lm, lc, ls, lt, as, vw, r, n⟩ := R.ex
    walk_at "rds"
    refine ⟨x, dx, _, rfl, r.hx, rF_no_read, ?_⟩
    walk_at "rd"
    refine ⟨H0, x, m, us, xs, b, hand, p, w, s, rfl, Mc, R, wf, p0, p4, fun wd e g s' hr1 v q1 H1 hq rv R1 tk1 => ?_, fun c hc => ?_⟩
    case refine_2 =>
      have ek : rFetch xs s q p w = (s, some c) := by unfold rFetch; rw [hc]
      rw [ek] at k
      exact k.flt R (Tk.refl _)
    unfold rFetch at k
    rw [hr1] at k
    obtain ⟨dx1, lp1, lm1, lc1, ls1, lt1, as1, vw1, r1, n1⟩ := R1.ex
    cases wd with
    | num nn =>
      replace k : RunEnd CR CF Q E H0 H x m hand (s', some "kind") := k
      obtain ⟨p2, vs, rfl, hp2, ha⟩ := rv.tup_inv
      obtain ⟨y0, yr, rfl, z0, ha⟩ := ha.cons_inv
      have e0 := z0.str_inv; subst e0
      walk_at "rd"
      refine rd_ifbT (by decide +kernel) ?_
      walk_at "rd"
      exact (k.flt R1 tk1).here
    | ptr a1 a2 a3 =>
      replace k : RunEnd CR CF Q E H0 H x m hand (s'.ptrSet q (some (mx (mx a1 e) (sgAt xs g).r1, a2, a3)), none) := k
      obtain ⟨p2, vs, rfl, hp2, ha⟩ := rv.tup_inv
      obtain ⟨y0, yr, rfl, z0, ha⟩ := ha.cons_inv
      obtain ⟨y1, yr, rfl, z1, ha⟩ := ha.cons_inv
      obtain ⟨y2, yr, rfl, z2, ha⟩ := ha.cons_inv
      obtain ⟨y3, yr, rfl, z3, ha⟩ := ha.cons_inv
      have e5 := ha.nil_inv; subst e5
      have e0 := z0.str_inv; subst e0
      have e1 := z1.int_inv; subst e1
      have e2 := z2.int_inv; subst e2
      have e3 := z3.int_inv; subst e3
      obtain ⟨g0, gN⟩ := read_seg wf p0 p4 hr1
      obtain ⟨sv, hsv, rsv, gu⟩ := seg_get Mc g0 gN
      obtain ⟨ps, vsg, rfl, hps, hsg⟩ := (rsv.keep (Tk.of R1.sm)).tup_inv
      obtain ⟨w0, wr, rfl, x0, hsg⟩ := hsg.cons_inv
      obtain ⟨pb, vb, rfl, hpb, hb⟩ := x0.tup_inv
      obtain ⟨b0, br, rfl, c0, hb⟩ := hb.cons_inv
      have eb := c0.int_inv; subst eb
      walk_at "rd"
      refine rd_ifbF (by decide +kernel) ?_
      walk_at "rd"
      refine ⟨x, CR, dx1, _, _, rfl, r1.hx, T.cl, T.n_machine, rF_machine, ?_⟩
      obtain ⟨mdx, mq, mh1, mh2⟩ := id (Mc.at_.same R1.sm)
      refine ⟨m, mdx, _, rfl, mh1, mFlds_no mq b (by decide +kernel) (by decide +kernel), ?_⟩
      walk_at "rd"
      refine ⟨m, us, b, g, _, rfl, Mc.at_.same R1.sm, g0, gu, hsv, ?_⟩
      walk_at "rd"
      refine rd_max3 ?_
      walk_at "rd"
      intro q3 hq3
      have s3 := same_upd (o := .tup [.int (mx (mx a1 e) (sgAt xs g).r1), .int a2, .int a3]) hq3
      have r3 := r1.same s3
      obtain ⟨vp, hvp, rvp⟩ := r3.hp
      have lvp : vp.length = 4 := by rw [rvp.length, List.length_map, (read_ptl hr1), wf.pt4]
      walk_at "rd"
      refine ⟨x, CR, dx1, _, _, rfl, r3.hx, T.cl, T.n_pointers, rF_pointers, ?_⟩
      walk_at "rd"
      refine rd_setL hvp (ixN_nat (i := q.toNat) (by omega) (by omega)) ?_
      have r5 := pt_put (q := q) (y := some (mx (mx a1 e) (sgAt xs g).r1, a2, a3)) (u := .ref q3) r3 hvp rvp (.tup upd_same (.cons (.int _) (.cons (.int _) (.cons (.int _) .nil))))
      have nq : H0 lp1 = none := n1 lp1 (by simp)
      walk_at "rd"
      exact k _ ⟨⟨dx1, lp1, lm1, lc1, ls1, lt1, as1, vw1, r5, n1⟩, R1.nx, same_put (R1.sm.trans s3) nq⟩ ((tk1.trans (Tk.of s3)).trans (Tk.lst hvp))
theorem ok_aim {f C CR CF : Addr} {fd : FuncData} (B : BT mg) (T : RCl K mg CR) (Fc : FltC P w K mg base CF) (F : Fun K "do_aim" "do_aim" s_do_aim f fd) : FnOk P w K mg base (L2N.CX P w) 6 f fd ["run", "q", "s", "w"] (spDo C CR CF (fun _ _ s ns => rAim s (one ns) (two ns) (three ns)) okA) := by
  refine Fun.okN F sc_do_aim (fun vs H Q E h => ?_) (fun cdv A outer s H vs Q E hr h => ?_)
  · obtain ⟨H0, x, m, us, xs, b, hand, s, ns, rfl, _, _, _, ⟨q, p, w, rfl, _⟩, _⟩ := h
    rfl
  · obtain ⟨H0, x, m, us, xs, b, hand, s, ns, rfl, Mc, R, wf, ⟨q, g, w, rfl, q0, q4, g0, gN⟩, k⟩ := h
    replace k : RunEnd CR CF Q E H0 H x m hand (rAim s q g w) := k
    refine ⟨_, (pss_cons (ps_if (pt_cmpR op_lt (pv 3) pe_int (nomark _)) (pss_one (ps_fault Fc rfl (L2N.takes_of rfl rfl rfl rfl) (hr.mono (by omega)) rfl pe_str)) pss_nil)
 (pss_one (ps_asg (pe_tup (pa_cons (pe_fldK (K := K) (pv 0) rfl) (pa_cons (pv 2) (pa_cons (pv 3) pa_nil)))) (pg_sub (pe_fldK (K := K) (pv 0) rfl) (pv 1) set_list)))), ?_⟩
    obtain ⟨dx, lp, lm, lc, ls, lt, as, vw, r, n⟩ := R.ex
    unfold rAim at k
    walk_at "rds"
    refine rd_ifd (fun c => ?_) (fun c => ?_)
    · rw [if_pos c] at k
      walk_at "rd"
      exact (k.flt R (Tk.refl _)).here
    rw [if_neg c] at k
    walk_at "rd"
    refine ⟨x, CR, dx, _, _, rfl, r.hx, T.cl, T.n_ring, rF_ring, ?_⟩
    walk_at "rd"
    intro q3 hq3
    have s3 := same_upd (o := .tup [.int s.ring, .int g, .int w]) hq3
    have r3 := r.same s3
    obtain ⟨vp, hvp, rvp⟩ := r3.hp
    have lvp : vp.length = 4 := by rw [rvp.length, List.length_map, wf.pt4]
    walk_at "rd"
    refine ⟨x, CR, dx, _, _, rfl, r3.hx, T.cl, T.n_pointers, rF_pointers, ?_⟩
    walk_at "rd"
    refine rd_setL hvp (ixN_nat (i := q.toNat) (by omega) (by omega)) ?_
    have r5 := pt_put (q := q) (y := some (s.ring, g, w)) (u := .ref q3) r3 hvp rvp (.tup upd_same (.cons (.int _) (.cons (.int _) (.cons (.int _) .nil))))
    have nq : H0 lp = none := n lp (by simp)
    walk_at "rd"
    exact k _ ⟨⟨dx, lp, lm, lc, ls, lt, as, vw, r5, n⟩, R.nx, same_put (R.sm.trans s3) nq⟩ ((Tk.of s3).trans (Tk.lst hvp))
theorem ok_move {f C CR CF : Addr} {fd : FuncData} (B : BT mg) (T : RCl K mg CR) (Fc : FltC P w K mg base CF) (F : Fun K "do_move" "do_move" s_do_move f fd) (M_pointer : MthX P w K mg base CR "pointer" 3 ["self", "p"] (spPointer CR CF)) : FnOk P w K mg base (L2N.CX P w) 6 f fd ["run", "q", "p", "n"] (spDo C CR CF (fun _ _ s ns => rMove s (one ns) (two ns) (three ns)) okF) := by
  refine Fun.okN F sc_do_move (fun vs H Q E h => ?_) (fun cdv A outer s H vs Q E hr h => ?_)
  · obtain ⟨H0, x, m, us, xs, b, hand, s, ns, rfl, _, _, _, ⟨q, p, w, rfl, _⟩, _⟩ := h
    rfl
  · obtain ⟨H0, x, m, us, xs, b, hand, s, ns, rfl, Mc, R, wf, ⟨q, p, w, rfl, q0, q4, p0, p4⟩, k⟩ := h
    replace k : RunEnd CR CF Q E H0 H x m hand (rMove s q p w) := k
    refine ⟨_, (pss_cons (ps_asg (pe_mthE (E := E) M_pointer T.cl (hr.mono (by omega)) (L2N.takes_of rfl rfl rfl rfl) (pv 0) (pa_cons (pv 2) pa_nil)) (pg_tup (by rfl) (pgs_cons (pg_name (i := 4) sc_do_move.nd rfl (Or.inl rfl)) (pgs_cons (pg_name (i := 5) sc_do_move.nd rfl (Or.inl rfl)) (pgs_cons (pg_name (i := 6) sc_do_move.nd rfl (Or.inl rfl)) pgs_nil)))))
 (pss_cons (ps_if (pt_cmpR op_lt (pe_op op_add (pv 6) (pv 3)) pe_int (nomark _)) (pss_one (ps_fault Fc rfl (L2N.takes_of rfl rfl rfl rfl) (hr.mono (by omega)) rfl pe_str)) pss_nil)
 (pss_one (ps_asg (pe_tup (pa_cons (pv 4) (pa_cons (pv 5) (pa_cons (pe_op op_add (pv 6) (pv 3)) pa_nil)))) (pg_sub (pe_fldK (K := K) (pv 0) rfl) (pv 1) set_list))))), ?_⟩
    obtain ⟨dx, lp, lm, lc, ls, lt, as, vw, r, n⟩ := R.ex
    unfold rMove at k
    walk_at "rds"
    refine ⟨x, dx, _, rfl, r.hx, rF_no_pointer, ?_⟩
    walk_at "rd"
    refine ⟨H0, x, m, hand, p, s, rfl, R, wf.pt4, p0, p4, fun rr g pl e1 qq hqq => ?_, fun e1 => ?_⟩
    case refine_2 =>
      rw [e1] at k
      exact k.flt R (Tk.refl _)
    rw [e1] at k
    dsimp only at k
    walk_at "rd"
    refine rd_ifd (fun c => ?_) (fun c => ?_)
    · rw [if_pos c] at k
      walk_at "rd"
      exact (k.flt R (Tk.refl _)).here
    rw [if_neg c] at k
    walk_at "rd"
    intro q3 hq3
    have s3 := same_upd (o := .tup [.int rr, .int g, .int (pl + w)]) hq3
    have r3 := r.same s3
    obtain ⟨vp, hvp, rvp⟩ := r3.hp
    have lvp : vp.length = 4 := by rw [rvp.length, List.length_map, wf.pt4]
    walk_at "rd"
    refine ⟨x, CR, dx, _, _, rfl, r3.hx, T.cl, T.n_pointers, rF_pointers, ?_⟩
    walk_at "rd"
    refine rd_setL hvp (ixN_nat (i := q.toNat) (by omega) (by omega)) ?_
    have r5 := pt_put (q := q) (y := some (rr, g, pl + w)) (u := .ref q3) r3 hvp rvp (.tup upd_same (.cons (.int _) (.cons (.int _) (.cons (.int _) .nil))))
    have nq : H0 lp = none := n lp (by simp)
    walk_at "rd"
    exact k _ ⟨⟨dx, lp, lm, lc, ls, lt, as, vw, r5, n⟩, R.nx, same_put (R.sm.trans s3) nq⟩ ((Tk.of s3).trans (Tk.lst hvp))
theorem ok_keep {f C CR CF : Addr} {fd : FuncData} (T : RCl K mg CR) (F : Fun K "do_keep" "do_keep" s_do_keep f fd) (M_pointer : MthX P w K mg base CR "pointer" 3 ["self", "p"] (spPointer CR CF)) (M_write : MthX P w K mg base CR "write" 5 ["self", "p", "w", "word"] (spWrite C CR CF)) : FnOk P w K mg base (L2N.CX P w) 6 f fd ["run", "q", "p", "w"] (spDo C CR CF (fun xs _ s ns => rKeep xs s (one ns) (two ns) (three ns)) okF) := by
  refine Fun.okN F sc_do_keep (fun vs H Q E h => ?_) (fun cdv A outer s H vs Q E hr h => ?_)
  · obtain ⟨H0, x, m, us, xs, b, hand, s, ns, rfl, _, _, _, ⟨q, p, w, rfl, _⟩, _⟩ := h
    rfl
  · obtain ⟨H0, x, m, us, xs, b, hand, s, ns, rfl, Mc, R, wf, ⟨q, p, w, rfl, q0, q4, p0, p4⟩, k⟩ := h
    replace k : RunEnd CR CF Q E H0 H x m hand (rKeep xs s q p w) := k
    refine ⟨_, (pss_one (ps_expr (pe_mthE (E := E) M_write T.cl (hr.mono (by omega)) (L2N.takes_of rfl rfl rfl rfl) (pv 0) (pa_cons (pv 2) (pa_cons (pv 3) (pa_cons (pe_op (r := rCatA K) op_catA (pe_tup (pa_cons pe_str pa_nil)) (pe_mthE (E := E) M_pointer T.cl (hr.mono (by omega)) (L2N.takes_of rfl rfl rfl rfl) (pv 0) (pa_cons (pv 1) pa_nil))) pa_nil)))))), ?_⟩
    obtain ⟨dx, lp, lm, lc, ls, lt, as, vw, r, n⟩ := R.ex
    unfold rKeep at k
    walk_at "rds"
    refine ⟨x, dx, _, rfl, r.hx, rF_no_write, ?_⟩
    walk_at "rd"
    intro q1 hq1
    have s1 := same_upd (o := .tup [.str "ptr"]) hq1
    have R1 := R.same s1
    have r1 := r.same s1
    walk_at "rd"
    refine ⟨x, dx, _, rfl, r1.hx, rF_no_pointer, ?_⟩
    walk_at "rd"
    refine ⟨H0, x, m, hand, q, s, rfl, R1, wf.pt4, q0, q4, fun rr g pl e1 qq hqq => ?_, fun e1 => ?_⟩
    case refine_2 =>
      rw [e1] at k
      exact k.flt R1 (Tk.of s1)
    rw [e1] at k
    dsimp only at k
    walk_at "rd"
    refine rd_catA upd_same hqq (by show 4 ≤ 1000; decide) fun q2 H2 s2 hq2 => ?_
    walk_at "rd"
    refine ⟨H0, x, m, us, xs, b, hand, p, w, .ref q2, .ptr rr g pl, s, rfl, Mc, R1.same s2, wf, p0, p4, .tup hq2 (.cons (.str _) (.cons (.int _) (.cons (.int _) (.cons (.int _) .nil)))), ?_⟩
    have s12 := s1.trans s2
    cases e : writeR xs s p w (.ptr rr g pl) with
    | mk s' o =>
      rw [e] at k
      cases o with
      | none => exact fun H' R' tk' => k H' R' ((Tk.of s12).trans tk')
      | some c => exact fun d H' hd h0 R' tk' => k d H' hd h0 R' ((Tk.of s12).trans tk')
end
open PySem PySem.Spec L2
section
variable {P : Program} {w : World} {K : PySem.W.Frag} {mg : Str → Option Value} {base : Heap}
def spRaised : Sp := fun vs H Q _ => ∃ (v : V) (p : Pt) (r : Int), vs = [v, .int r] ∧ Rp H v (ptD p) ∧ ∀ (u : V) (H' : Hp), Rp H' u (ptD (raisedR r p)) → Same H H' → Q u H'
theorem ok_raised {f : Addr} {fd : FuncData} (B : BT mg) (F : Fun K "raised" "raised" s_raised f fd) (hm : mg "raised" = some (.ref f)) : Cal P w K mg base "raised" 1 ["pointer", "ring"] spRaised := by
  refine ⟨f, fd, hm, F.kp, F.binds (ps := ["pointer", "ring"]) fun _ _ _ _ _ _ us hl => match us, hl with | [_, _], _ => rfl, ?_⟩
  refine F.ok sc_raised (fun vs H Q E h => ?_) (fun cdv A outer s H vs Q E hr h => ?_)
  · obtain ⟨v, p, r, rfl, _⟩ := h
    rfl
  · obtain ⟨v, p, r, rfl, rv, k⟩ := h
    refine ⟨_, (pss_cons (ps_if (pt_cmpR op_isN (pv 0) pe_non (nomark _)) (pss_one (ps_ret pe_non)) pss_nil)
 (pss_cons (ps_asg (pv 0) (pg_tup (by rfl) (pgs_cons (pg_name (i := 2) sc_raised.nd rfl (Or.inl rfl)) (pgs_cons (pg_name (i := 3) sc_raised.nd rfl (Or.inl rfl)) (pgs_cons (pg_name (i := 4) sc_raised.nd rfl (Or.inl rfl)) pgs_nil)))))
 (pss_one (ps_ret (pe_tup (pa_cons (pe_callB (call_max2 rfl) rfl B.g_max (by decide +kernel) (pa_cons (pv 2) (pa_cons (pv 1) pa_nil))) (pa_cons (pv 3) (pa_cons (pv 4) pa_nil)))))))), ?_⟩
    cases p with
    | none =>
      cases rv
      walk_at "rds"
      refine ⟨rfl, ?_⟩
      walk_at "rd"
      refine rd_ifT rfl ?_
      walk_at "rd"
      exact k .non H .non (Same.refl _)
    | some z =>
      obtain ⟨o, g, pl⟩ := z
      obtain ⟨q, rfl, hq⟩ := ptD_some rv
      walk_at "rds"
      refine ⟨rfl, ?_⟩
      walk_at "rd"
      refine rd_ifF (fun z => nomatch z) ?_
      walk_at "rd"
      refine ⟨_, _, rfl, ?_⟩
      walk_at "rd"
      intro q2 hq2
      exact k (.ref q2) _ (.tup upd_same (.cons (.int _) (.cons (.int _) (.cons (.int _) .nil)))) (same_upd hq2)
def spEntered (CF : Addr) : Sp := fun vs H Q E => ∃ (v : V) (x : Sg) (pl e : Int), vs = [v, .int pl, .int e] ∧ Rp H v x.d ∧ (∀ r, enteredR x pl e = .ok r → Q (.int r) H) ∧ ∀ c, enteredR x pl e = .error c → Flt CF E H c
theorem ok_entered {f CF : Addr} {fd : FuncData} (B : BT mg) (Fc : FltC P w K mg base CF) (F : Fun K "entered" "entered" s_entered f fd) (hm : mg "entered" = some (.ref f)) : CalN P w K mg base "entered" 3 ["segment", "place", "e"] (spEntered CF) := by
  refine ⟨f, fd, hm, F.kp, F.binds (ps := ["segment", "place", "e"]) fun _ _ _ _ _ _ us hl => match us, hl with | [_, _, _], _ => rfl, ?_⟩
  refine Fun.okN F sc_entered (fun vs H Q E h => ?_) (fun cdv A outer s H vs Q E hr h => ?_)
  · obtain ⟨v, x, pl, e, rfl, _⟩ := h
    rfl
  · obtain ⟨v, x, pl, e, rfl, rv, k1, k2⟩ := h
    refine ⟨_, (pss_cons (ps_asg (pv 0) (pg_tup (by rfl) (pgs_cons (pg_tup (by rfl) (pgs_cons (pg_name (i := 3) sc_entered.nd rfl (Or.inl rfl)) (pgs_cons (pg_name (i := 4) sc_entered.nd rfl (Or.inl rfl)) (pgs_cons (pg_name (i := 5) sc_entered.nd rfl (Or.inl rfl)) pgs_nil)))) (pgs_cons (pg_name (i := 6) sc_entered.nd rfl (Or.inl rfl)) (pgs_cons (pg_name (i := 7) sc_entered.nd rfl (Or.inl rfl)) (pgs_cons (pg_name (i := 8) sc_entered.nd rfl (Or.inl rfl)) (pgs_cons (pg_name (i := 9) sc_entered.nd rfl (Or.inl rfl)) pgs_nil)))))))
 (pss_cons (ps_if (pt_cmpR op_notIn_sign pe_str (pv 6) rfl) (pss_one (ps_fault Fc rfl (L2N.takes_of rfl rfl rfl rfl) (hr.mono (by omega)) rfl pe_str)) pss_nil)
 (pss_cons (ps_if (pt_not (pt_chain op_le op_lt pe_int (pv 1) (pe_callB (cr_lenS (K := K)) rfl B.g_len PySem.boot_len (pa_cons (pv 9) pa_nil)))) (pss_one (ps_fault Fc rfl (L2N.takes_of rfl rfl rfl rfl) (hr.mono (by omega)) rfl pe_str)) pss_nil)
 (pss_cons (ps_if (pt_cmpR op_le (pv 2) (pv 4) (nomark _)) (pss_one (ps_ret (pe_callB (call_max2 rfl) rfl B.g_max (by decide +kernel) (pa_cons (pv 2) (pa_cons (pv 3) pa_nil))))) pss_nil)
 (pss_cons (ps_if (pt_cmpR op_gt (pv 2) (pv 5) (nomark _)) (pss_one (ps_fault Fc rfl (L2N.takes_of rfl rfl rfl rfl) (hr.mono (by omega)) rfl pe_str)) pss_nil)
 (pss_cons (ps_if (pt_cmpR op_ge (pv 1) (pv 7) (nomark _)) (pss_one (ps_fault Fc rfl (L2N.takes_of rfl rfl rfl rfl) (hr.mono (by omega)) rfl pe_str)) pss_nil)
 (pss_one (ps_ret (pv 4))))))))), ?_⟩
    obtain ⟨p, vs, rfl, hp, ha⟩ := rv.tup_inv
    obtain ⟨x0, xr, rfl, h0, ha⟩ := ha.cons_inv
    obtain ⟨x1, xr, rfl, h1, ha⟩ := ha.cons_inv
    obtain ⟨x2, xr, rfl, h2, ha⟩ := ha.cons_inv
    obtain ⟨x3, xr, rfl, h3, ha⟩ := ha.cons_inv
    obtain ⟨x4, xr, rfl, h4, ha⟩ := ha.cons_inv
    have e5 := ha.nil_inv; subst e5
    have e1 := h1.str_inv; subst e1
    have e2 := h2.int_inv; subst e2
    obtain ⟨pb, vb, rfl, hpb, hb⟩ := h0.tup_inv
    have eb := RpAll.ints_inv (ns := [x.r1, x.r2, x.r3]) hb
    subst eb
    obtain ⟨pr, vr, rfl, hpr, hr4⟩ := h4.tup_inv
    have lr : vr.length = x.rs.length := by rw [hr4.length, List.length_map]
    unfold enteredR at k1 k2
    dsimp only [List.map] at hpb
    walk_at "rds"
    refine ⟨120, x.ri, rfl, rfl, _, rfl, ?_⟩
    refine rd_ifn (fun h1 => ?_) (fun h1 => ?_)
    case refine_2 =>
      replace h1 : has 120 x.ri = false := h1
      rw [if_pos h1] at k2
      walk_at "rd"
      exact (k2 _ rfl).here
    replace h1 : ¬ has 120 x.ri = false := fun z => by
      have : has 120 x.ri = true := h1
      rw [z] at this
      cases this
    rw [if_neg h1] at k1 k2
    walk_at "rd"
    refine rd_ifd (fun h0 => ?_) (fun h0 => ?_)
    case refine_2 =>
      rw [if_pos (fun z => h0 z.1)] at k2
      walk_at "rd"
      exact (k2 _ rfl).here
    walk_at "rd"
    refine ⟨pr, vr, rfl, .inr (SqT.of hpr), ?_⟩
    rw [lr]
    walk_at "rd"
    refine rd_ifn (fun h2 => ?_) (fun h2 => ?_)
    case refine_2 =>
      rw [if_pos (fun z => of_decide_eq_false h2 z.2)] at k2
      walk_at "rd"
      exact (k2 _ rfl).here
    rw [if_neg (fun z => z ⟨h0, of_decide_eq_true h2⟩)] at k1 k2
    walk_at "rd"
    refine rd_ifd (fun h3 => ?_) (fun h3 => ?_)
    · rw [if_pos h3] at k1
      walk_at "rd"
      refine ⟨_, _, rfl, ?_⟩
      exact k1 _ rfl
    rw [if_neg h3] at k1 k2
    walk_at "rd"
    refine rd_ifd (fun h4 => ?_) (fun h4 => ?_)
    · rw [if_pos h4] at k2
      walk_at "rd"
      exact (k2 _ rfl).here
    rw [if_neg h4] at k1 k2
    walk_at "rd"
    refine rd_ifd (fun h5 => ?_) (fun h5 => ?_)
    · rw [if_pos h5] at k2
      walk_at "rd"
      exact (k2 _ rfl).here
    rw [if_neg h5] at k1
    walk_at "rd"
    exact k1 _ rfl
def spEnter (CR : Addr) : Sp := fun vs H Q _ => ∃ (H0 : Hp) (x m : Addr) (hand r : Int) (s : Rn) (v : V) (w : Option (Int × Int)), vs = [.ref x, .int r, v] ∧ RunAt CR H0 H x m hand s ∧ Rp H v (whD w) ∧ s.pt.length = 4 ∧ ∀ H', RunAt CR H0 H' x m hand (s.enter r w) → Tk H H' → Q .non H'
theorem ok_enter {f CR : Addr} {fd : FuncData} (T : RCl K mg CR) (M : Meth K CR "enter" f) (F : Fun K "enter" "Run.enter" s_Run_enter f fd) (C_raised : Cal P w K mg base "raised" 1 ["pointer", "ring"] spRaised) : Mth P w K mg base CR "enter" 2 ["self", "ring", "where"] (spEnter CR) := by
  refine ⟨f, fd, M, F.binds (ps := ["self", "ring", "where"]) fun _ _ _ _ _ _ us hl => match us, hl with | [_, _, _], _ => rfl, ?_⟩
  refine F.ok sc_Run_enter (fun vs H Q E h => ?_) (fun cdv A outer s H vs Q E hr h => ?_)
  · obtain ⟨H0, x, m, hand, r, s, v, w, rfl, _⟩ := h
    rfl
  · obtain ⟨H0, x, m, hand, rg, s, v, w, rfl, R, rv, l4, k⟩ := h
    refine ⟨_, (pss_cons (ps_fldK (K := K) (pv 0) (pv 1) rfl)
 (pss_cons (ps_fldK (K := K) (pv 0) (pv 2) rfl)
 (pss_one (ps_fldK (K := K) (pv 0) (pe_lc (own := [("pointer", 3)]) (g := gName 3) (tt := tYes) rfl sc_Run_enter.nd (pi_listK (K := K) (pe_fldK (K := K) (pv 0) rfl)) (blkOk_by (own := [("pointer", 3)]) (N := ["self", "ring", "where", "pointer"]) (sc := defScope s_Run_enter) (by decide +kernel)) (fun _ _ _ _ _ => (pg_name (i := 3) sc_Run_enter.nd rfl (by first | exact Or.inl rfl | exact Or.inr rfl))) (fun _ _ _ _ _ => pts_nil) (fun _ _ _ _ _ => (pe_cal C_raised (hr.mono (by omega)) rfl (pa_cons (pv 3) (pa_cons (pv 1) pa_nil))))) rfl)))), ?_⟩
    obtain ⟨dx, lp, lm, lc, ls, lt, as, vw, r, n⟩ := R.ex
    walk_at "rds"
    refine ⟨x, CR, dx, _, rfl, r.hx, T.cl, T.n_ring, by show 10 < 1000; decide, ?_⟩
    have r1 := r.fld (s' := { s with ring := rg }) _ (put_ring (v2 := .int s.ring)) rfl rfl rfl rfl rfl r.hw
    have sm1 : Same H0 _ := same_put (o := .ins CR dx (putF "ring" (.int rg) (rF (.ref m) (.int hand) (.int s.ring) (.int s.a) (.ref lp) (.ref lm) vw (.ref lc) (.ref ls) (.ref lt)))) R.sm R.nx
    have tk1 := Tk.ins (o := .ins CR dx (putF "ring" (.int rg) (rF (.ref m) (.int hand) (.int s.ring) (.int s.a) (.ref lp) (.ref lm) vw (.ref lc) (.ref ls) (.ref lt)))) r.hx
    generalize upd H x (.ins CR dx (putF "ring" (.int rg) (rF (.ref m) (.int hand) (.int s.ring) (.int s.a) (.ref lp) (.ref lm) vw (.ref lc) (.ref ls) (.ref lt)))) = H1 at r1 sm1 tk1
    walk_at "rd"
    refine ⟨x, CR, dx, _, rfl, r1.hx, T.cl, T.n_where, by show 10 < 1000; decide, ?_⟩
    have r2 := r1.fld (s' := { s with ring := rg, wh := w }) _ (put_where (v6 := vw)) rfl rfl rfl rfl rfl (rv.keep tk1)
    have sm2 : Same H0 _ := same_put (o := .ins CR dx (putF "where" v (rF (.ref m) (.int hand) (.int rg) (.int s.a) (.ref lp) (.ref lm) vw (.ref lc) (.ref ls) (.ref lt)))) sm1 R.nx
    have tk2 := tk1.trans (Tk.ins (o := .ins CR dx (putF "where" v (rF (.ref m) (.int hand) (.int rg) (.int s.a) (.ref lp) (.ref lm) vw (.ref lc) (.ref ls) (.ref lt)))) r1.hx)
    generalize upd H1 x (.ins CR dx (putF "where" v (rF (.ref m) (.int hand) (.int rg) (.int s.a) (.ref lp) (.ref lm) vw (.ref lc) (.ref ls) (.ref lt)))) = H2 at r2 sm2 tk2
    obtain ⟨vp, hvp, rvp⟩ := r2.hp
    replace rvp : RpAll H2 vp (s.pt.map ptD) := rvp
    have lvp : vp.length = s.pt.length := by rw [rvp.length, List.length_map]
    walk_at "rd"
    refine ⟨x, CR, dx, _, _, rfl, r2.hx, T.cl, T.n_pointers, rF_pointers, ?_⟩
    refine ⟨lp, rfl, ⟨_, SqL.of hvp⟩, fun D hD => ?_⟩
    refine lc_it (walk_list (xs := vp)) (CompR D H2 s.pt (fun p => ptD (raisedR rg p))) (CompR.start hD) (fun i H' _ p => by obtain ⟨_, _, _, p⟩ := p; exact SqL.of (p _ _ hvp)) ?_ ?_
    · rintro i y H3 H4 hi pc ⟨rfl, hy⟩
      obtain ⟨_, _, _, s3⟩ := id pc
      obtain ⟨d, hd, ry⟩ := (rvp.keep (Tk.of s3)).get hy
      rw [List.getElem?_map] at hd
      obtain ⟨z, hz, rfl⟩ := Option.map_eq_some_iff.mp hd
      walk_at "rd"
      refine ⟨rfl, ?_⟩
      walk_at "rd"
      refine ⟨y, z, rg, rfl, ry, fun u H5 ru s5 => ?_⟩
      exact pc.step hD (by omega) hz s5 ru
    intro H3 pc
    obtain ⟨v3, hv3, rv3, s3⟩ := pc.end lvp
    have r3 := r2.same s3
    obtain ⟨f1, f2, f3, f4, f5⟩ := run_free (H0 := H0) r2 hD
    have rv3' : RpAll H3 v3 ((s.pt.map (raisedR rg)).map ptD) := by rw [List.map_map]; exact rv3
    walk_at "rd"
    refine ⟨x, CR, dx, _, rfl, r3.hx, T.cl, T.n_pointers, by show 10 < 1000; decide, ?_⟩
    walk_at "rd"
    have r4 := r3.newP (pt := s.pt.map (raisedR rg)) hv3 rv3' f1 f2 f3 f4 f5 _ (put_pointers (v4 := .ref lp))
    refine k _ ⟨⟨dx, D, lm, lc, ls, lt, as, v, r4, fun a ha => ?_⟩, R.nx, same_put (sm2.trans s3) R.nx⟩ ((tk2.trans (Tk.of s3)).trans (Tk.ins r3.hx))
    rcases List.mem_cons.mp ha with rfl | ha
    · exact sm2.free hD
    · exact n a (List.mem_cons_of_mem _ ha)
theorem ok_zero {f C CR CF : Addr} {fd : FuncData} (T : RCl K mg CR) (F : Fun K "do_zero" "do_zero" s_do_zero f fd) (M_hand : MthX P w K mg base CR "not_the_hand" 3 ["self"] (spHand CR CF)) (M_jump : Mth P w K mg base CR "jump" 1 ["self", "j"] (spJump CR)) : FnOk P w K mg base (L2N.CX P w) 6 f fd ["run", "j"] (spDo C CR CF (fun _ _ s ns => rZero s (one ns)) ok1) := by
  refine Fun.okN F sc_do_zero (fun vs H Q E h => ?_) (fun cdv A outer s H vs Q E hr h => ?_)
  · obtain ⟨H0, x, m, us, xs, b, hand, s, ns, rfl, _, _, _, ⟨a, rfl⟩, _⟩ := h
    rfl
  · obtain ⟨H0, x, m, us, xs, b, hand, s, ns, rfl, Mc, R, wf, ⟨j, rfl⟩, k⟩ := h
    replace k : RunEnd CR CF Q E H0 H x m hand (rZero s j) := k
    refine ⟨_, (pss_cons (ps_expr (pe_mthE0 (E := E) M_hand T.cl (hr.mono (by omega)) (L2N.takes_of rfl rfl rfl rfl) (pv 0)))
 (pss_one (ps_if (pt_cmpR op_eq (pe_fldK (K := K) (pv 0) rfl) pe_int (nomark _)) (pss_one (ps_expr (pe_mth M_jump T.cl (hr.mono (by omega)) (pv 0) (pa_cons (pv 1) pa_nil)))) pss_nil))), ?_⟩
    obtain ⟨dx, lp, lm, lc, ls, lt, as, vw, r, n⟩ := R.ex
    unfold rZero at k
    walk_at "rds"
    refine ⟨x, dx, _, rfl, r.hx, rF_no_not_the_hand, ?_⟩
    walk_at "rd"
    refine ⟨H0, x, m, hand, s, rfl, R, fun hw => ?_, fun hw => ?_⟩
    case refine_2 =>
      rw [hw] at k
      exact k.flt R (Tk.refl _)
    cases ew : s.wh with
    | none => exact absurd ew hw
    | some z =>
    obtain ⟨g, p⟩ := z
    rw [ew] at k
    dsimp only at k
    walk_at "rd"
    refine ⟨x, CR, dx, _, _, rfl, r.hx, T.cl, T.n_a, rF_a, ?_⟩
    walk_at "rd"
    refine rd_ifI (fun c => ?_) (fun c => ?_)
    case refine_2 =>
      rw [if_neg c] at k
      walk_at "rd"
      exact k H R (Tk.refl _)
    rw [if_pos c] at k
    walk_at "rd"
    refine ⟨x, dx, _, rfl, r.hx, rF_no_jump, ?_⟩
    walk_at "rd"
    exact ⟨H0, x, m, hand, j, g, p, s, rfl, R, ew, fun H1 R1 tk1 => k H1 R1 tk1⟩
theorem ok_go {f C CR CF : Addr} {fd : FuncData} (T : RCl K mg CR) (F : Fun K "do_go" "do_go" s_do_go f fd) (M_hand : MthX P w K mg base CR "not_the_hand" 3 ["self"] (spHand CR CF)) (M_jump : Mth P w K mg base CR "jump" 1 ["self", "j"] (spJump CR)) : FnOk P w K mg base (L2N.CX P w) 6 f fd ["run", "j"] (spDo C CR CF (fun _ _ s ns => rGo s (one ns)) ok1) := by
  refine Fun.okN F sc_do_go (fun vs H Q E h => ?_) (fun cdv A outer s H vs Q E hr h => ?_)
  · obtain ⟨H0, x, m, us, xs, b, hand, s, ns, rfl, _, _, _, ⟨a, rfl⟩, _⟩ := h
    rfl
  · obtain ⟨H0, x, m, us, xs, b, hand, s, ns, rfl, Mc, R, wf, ⟨j, rfl⟩, k⟩ := h
    replace k : RunEnd CR CF Q E H0 H x m hand (rGo s j) := k
    refine ⟨_, (pss_cons (ps_expr (pe_mthE0 (E := E) M_hand T.cl (hr.mono (by omega)) (L2N.takes_of rfl rfl rfl rfl) (pv 0)))
 (pss_one (ps_expr (pe_mth M_jump T.cl (hr.mono (by omega)) (pv 0) (pa_cons (pv 1) pa_nil))))), ?_⟩
    obtain ⟨dx, lp, lm, lc, ls, lt, as, vw, r, n⟩ := R.ex
    unfold rGo at k
    walk_at "rds"
    refine ⟨x, dx, _, rfl, r.hx, rF_no_not_the_hand, ?_⟩
    walk_at "rd"
    refine ⟨H0, x, m, hand, s, rfl, R, fun hw => ?_, fun hw => ?_⟩
    case refine_2 =>
      rw [hw] at k
      exact k.flt R (Tk.refl _)
    cases ew : s.wh with
    | none => exact absurd ew hw
    | some z =>
    obtain ⟨g, p⟩ := z
    rw [ew] at k
    dsimp only at k
    walk_at "rd"
    refine ⟨x, dx, _, rfl, r.hx, rF_no_jump, ?_⟩
    walk_at "rd"
    exact ⟨H0, x, m, hand, j, g, p, s, rfl, R, ew, fun H1 R1 tk1 => k H1 R1 tk1⟩
theorem ok_call {f C CR CF : Addr} {fd : FuncData} (B : BT mg) (TM : MC K mg C) (T : RCl K mg CR) (Fc : FltC P w K mg base CF) (G_DEEPEST : GI mg "DEEPEST" 8) (F : Fun K "do_call" "do_call" s_do_call f fd) (M_pointer : MthX P w K mg base CR "pointer" 3 ["self", "p"] (spPointer CR CF)) (M_seg : Mth P w K mg base C "segment" 3 ["self", "number"] (spSegAt C)) (C_entered : CalN P w K mg base "entered" 3 ["segment", "place", "e"] (spEntered CF)) (M_enter : Mth P w K mg base CR "enter" 2 ["self", "ring", "where"] (spEnter CR)) : FnOk P w K mg base (L2N.CX P w) 6 f fd ["run", "p"] (spDo C CR CF (fun xs _ s ns => rCall xs s (one ns)) (fun _ ns => ∃ p, ns = [p] ∧ 0 ≤ p ∧ p < 4)) := by
  refine Fun.okN F sc_do_call (fun vs H Q E h => ?_) (fun cdv A outer s H vs Q E hr h => ?_)
  · obtain ⟨H0, x, m, us, xs, b, hand, s, ns, rfl, _, _, _, ⟨a, rfl, _⟩, _⟩ := h
    rfl
  · obtain ⟨H0, x, m, us, xs, b, hand, s, ns, rfl, Mc, R, wf, ⟨p, rfl, p0, p4⟩, k⟩ := h
    replace k : RunEnd CR CF Q E H0 H x m hand (rCall xs s p) := k
    refine ⟨_, (pss_cons (ps_asg (pe_mthE (E := E) M_pointer T.cl (hr.mono (by omega)) (L2N.takes_of rfl rfl rfl rfl) (pv 0) (pa_cons (pv 1) pa_nil)) (pg_tup (by rfl) (pgs_cons (pg_name (i := 2) sc_do_call.nd rfl (Or.inl rfl)) (pgs_cons (pg_name (i := 3) sc_do_call.nd rfl (Or.inl rfl)) (pgs_cons (pg_name (i := 4) sc_do_call.nd rfl (Or.inl rfl)) pgs_nil)))))
 (pss_cons (ps_set (i := 5) sc_do_call.nd rfl (Or.inl rfl) (pe_calE (E := E) C_entered (hr.mono (by omega)) rfl (L2N.takes_of rfl rfl rfl rfl) (pa_cons (pe_mth M_seg TM.cl (hr.mono (by omega)) (pe_fldK (K := K) (pv 0) rfl) (pa_cons (pv 3) pa_nil)) (pa_cons (pv 4) (pa_cons (pe_callB (call_max2 rfl) rfl B.g_max (by decide +kernel) (pa_cons (pe_fldK (K := K) (pv 0) rfl) (pa_cons (pv 2) pa_nil))) pa_nil)))))
 (pss_cons (ps_if (pt_cmpR op_ge (pe_callB (cr_lenS (K := K)) rfl B.g_len PySem.boot_len (pa_cons (pe_fldK (K := K) (pv 0) rfl) pa_nil)) (pe_gi G_DEEPEST rfl) (nomark _)) (pss_one (ps_fault Fc rfl (L2N.takes_of rfl rfl rfl rfl) (hr.mono (by omega)) rfl pe_str)) pss_nil)
 (pss_cons (ps_expr (pe_bm PySem.F.plainAttrs_list PySem.F.slot_list_append PySem.F.type_list_append mt_append (pe_fldK (K := K) (pv 0) rfl) (pa_cons (pe_tup (pa_cons (pe_fldK (K := K) (pv 0) rfl) (pa_cons (pe_fldK (K := K) (pv 0) rfl) pa_nil))) pa_nil)))
 (pss_one (ps_expr (pe_mth M_enter T.cl (hr.mono (by omega)) (pv 0) (pa_cons (pv 5) (pa_cons (pe_tup (pa_cons (pv 3) (pa_cons (pv 4) pa_nil))) pa_nil))))))))), ?_⟩
    obtain ⟨dx, lp, lm, lc, ls, lt, as, vw, r, n⟩ := R.ex
    unfold rCall at k
    walk_at "rds"
    refine ⟨x, dx, _, rfl, r.hx, rF_no_pointer, ?_⟩
    walk_at "rd"
    refine ⟨H0, x, m, hand, p, s, rfl, R, wf.pt4, p0, p4, fun rr g pl e1 qq hqq => ?_, fun e1 => ?_⟩
    case refine_2 =>
      rw [e1] at k
      exact k.flt R (Tk.refl _)
    rw [e1] at k
    dsimp only at k
    obtain ⟨g0, gN, pl0⟩ := wf.ptg rr g pl (ptr_mem wf.pt4 p0 p4 e1)
    obtain ⟨sv, hsv, rsv, gu⟩ := seg_get Mc g0 gN
    walk_at "rd"
    refine ⟨x, CR, dx, _, _, rfl, r.hx, T.cl, T.n_machine, rF_machine, ?_⟩
    obtain ⟨mdx, mq, mh1, mh2⟩ := id (Mc.at_.same R.sm)
    refine ⟨m, mdx, _, rfl, mh1, mFlds_no mq b (by decide +kernel) (by decide +kernel), ?_⟩
    walk_at "rd"
    refine ⟨m, us, b, g, sv, rfl, Mc.at_.same R.sm, g0, gu, hsv, ?_⟩
    walk_at "rd"
    refine ⟨x, CR, dx, _, _, rfl, r.hx, T.cl, T.n_ring, rF_ring, ?_⟩
    walk_at "rd"
    refine ⟨_, _, rfl, ?_⟩
    walk_at "rd"
    refine ⟨sv, _, pl, mx s.ring rr, rfl, rsv.keep (Tk.of R.sm), fun e e2 => ?_, fun c e2 => ?_⟩
    case refine_2 =>
      rw [e2] at k
      exact k.flt R (Tk.refl _)
    rw [e2] at k
    dsimp only at k
    obtain ⟨vc, hvc, rvc⟩ := r.hc
    have lvc : vc.length = s.ca.length := by rw [rvc.length, List.length_map]
    have c8 := wf.c8
    walk_at "rd"
    refine ⟨x, CR, dx, _, _, rfl, r.hx, T.cl, T.n_calls, rF_calls, ?_⟩
    walk_at "rd"
    refine ⟨lc, vc, rfl, .inl (SqL.of hvc), ?_⟩
    rw [lvc]
    walk_at "rd"
    refine rd_ifd (fun h8 => ?_) (fun h8 => ?_)
    · rw [if_pos (by omega)] at k
      walk_at "rd"
      exact (k.flt R (Tk.refl _)).here
    rw [if_neg (by omega)] at k
    walk_at "rd"
    refine ⟨x, CR, dx, _, _, rfl, r.hx, T.cl, T.n_calls, rF_calls, ?_⟩
    walk_at "rd"
    refine ⟨x, CR, dx, _, _, rfl, r.hx, T.cl, T.n_ring, rF_ring, ?_⟩
    walk_at "rd"
    refine ⟨x, CR, dx, _, _, rfl, r.hx, T.cl, T.n_where, rF_where, ?_⟩
    walk_at "rd"
    intro q3 hq3
    have s3 := same_upd (o := .tup [.int s.ring, vw]) hq3
    have r3 := r.same s3
    have hvc3 := s3 _ _ hvc
    walk_at "rd"
    refine rd_append hvc3 (by rw [lvc]; exact small1000 (by omega)) ?_
    have rC : RpAll (upd H q3 (.tup [.int s.ring, vw])) (vc ++ [.ref q3]) ((s.ca ++ [(s.ring, s.wh)]).map caD) := by
      rw [List.map_append]
      exact (rvc.keep (Tk.of s3)).append (.cons (.tup upd_same (.cons (.int _) (.cons r3.hw .nil))) .nil)
    have r4 := r3.setC rC
    have nlc : H0 lc = none := n lc (by simp)
    have sm4 : Same H0 (upd (upd H q3 (.tup [.int s.ring, vw])) lc (.lst (vc ++ [.ref q3]))) := same_put (R.sm.trans s3) nlc
    have tk4 : Tk H (upd (upd H q3 (.tup [.int s.ring, vw])) lc (.lst (vc ++ [.ref q3]))) := (Tk.of s3).trans (Tk.lst hvc3)
    generalize upd (upd H q3 (.tup [.int s.ring, vw])) lc (.lst (vc ++ [.ref q3])) = H4 at r4 sm4 tk4
    walk_at "rd"
    refine ⟨x, dx, _, rfl, r4.hx, rF_no_enter, ?_⟩
    walk_at "rd"
    intro q5 hq5
    have s5 := same_upd (o := .tup [.int g, .int pl]) hq5
    walk_at "rd"
    refine ⟨H0, x, m, hand, e, { s with ca := s.ca ++ [(s.ring, s.wh)] }, .ref q5, some (g, pl), rfl, ⟨⟨dx, lp, lm, lc, ls, lt, as, vw, r4.same s5, n⟩, R.nx, sm4.trans s5⟩, .tup upd_same (.cons (.int _) (.cons (.int _) .nil)), wf.pt4, fun H6 R6 tk6 => ?_⟩
    walk_at "rd"
    exact k H6 R6 ((tk4.trans (Tk.of s5)).trans tk6)
theorem RpAll.split {H : Hp} : ∀ {ds1 ds2 : List PyData} {vs : List V}, RpAll H vs (ds1 ++ ds2) → ∃ v1 v2, vs = v1 ++ v2 ∧ RpAll H v1 ds1 ∧ RpAll H v2 ds2
  | [], _, vs, h => ⟨[], vs, rfl, .nil, h⟩
  | d :: ds1, ds2, vs, h => by
    obtain ⟨u, r, rfl, hu, hr⟩ := RpAll.cons_inv (show RpAll H vs (d :: (ds1 ++ ds2)) from h)
    obtain ⟨v1, v2, rfl, h1, h2⟩ := RpAll.split hr
    exact ⟨u :: v1, v2, rfl, .cons hu h1, h2⟩
theorem ok_return {f C CR CF : Addr} {fd : FuncData} (T : RCl K mg CR) (F : Fun K "do_return" "do_return" s_do_return f fd) (M_hand : MthX P w K mg base CR "not_the_hand" 3 ["self"] (spHand CR CF)) (M_enter : Mth P w K mg base CR "enter" 2 ["self", "ring", "where"] (spEnter CR)) : FnOk P w K mg base (L2N.CX P w) 6 f fd ["run"] (spDo C CR CF (fun _ _ s _ => rRet s) (fun _ ns => ns = [])) := by
  refine Fun.okN F sc_do_return (fun vs H Q E h => ?_) (fun cdv A outer s H vs Q E hr h => ?_)
  · obtain ⟨H0, x, m, us, xs, b, hand, s, ns, rfl, _, _, _, rfl, _⟩ := h
    rfl
  · obtain ⟨H0, x, m, us, xs, b, hand, s, ns, rfl, Mc, R, wf, rfl, k⟩ := h
    replace k : RunEnd CR CF Q E H0 H x m hand (rRet s) := k
    refine ⟨_, (pss_cons (ps_expr (pe_mthE0 (E := E) M_hand T.cl (hr.mono (by omega)) (L2N.takes_of rfl rfl rfl rfl) (pv 0)))
 (pss_cons (ps_asg (pe_bm0 PySem.F.plainAttrs_list PySem.F.slot_list_pop PySem.F.type_list_pop mt_pop (pe_fldK (K := K) (pv 0) rfl)) (pg_tup (by rfl) (pgs_cons (pg_name (i := 1) sc_do_return.nd rfl (Or.inl rfl)) (pgs_cons (pg_name (i := 2) sc_do_return.nd rfl (Or.inl rfl)) pgs_nil))))
 (pss_one (ps_expr (pe_mth M_enter T.cl (hr.mono (by omega)) (pv 0) (pa_cons (pv 1) (pa_cons (pv 2) pa_nil))))))), ?_⟩
    obtain ⟨dx, lp, lm, lc, ls, lt, as, vw, r, n⟩ := R.ex
    unfold rRet at k
    walk_at "rds"
    refine ⟨x, dx, _, rfl, r.hx, rF_no_not_the_hand, ?_⟩
    walk_at "rd"
    refine ⟨H0, x, m, hand, s, rfl, R, fun hw => ?_, fun hw => ?_⟩
    case refine_2 =>
      rw [hw] at k
      exact k.flt R (Tk.refl _)
    cases ew : s.wh with
    | none => exact absurd ew hw
    | some z =>
    obtain ⟨g, p⟩ := z
    rw [ew] at k
    dsimp only at k
    walk_at "rd"
    refine ⟨x, CR, dx, _, _, rfl, r.hx, T.cl, T.n_calls, rF_calls, ?_⟩
    walk_at "rd"
    obtain ⟨vc, hvc, rvc⟩ := r.hc
    cases el : s.ca.getLast? with
    | none =>
      have hk := wf.sk
      rw [ew] at hk
      exact absurd (List.getLast?_eq_none_iff.mp el) hk.ne
    | some c =>
    obtain ⟨cr, cw⟩ := c
    rw [el] at k
    dsimp only at k
    have eca : s.ca = s.ca.dropLast ++ [(cr, cw)] := by
      have hne : s.ca ≠ [] := fun z => by rw [z] at el; cases el
      rw [List.getLast?_eq_some_getLast hne] at el
      have e2 : s.ca.getLast hne = (cr, cw) := by injection el
      rw [← e2]
      exact (List.dropLast_concat_getLast hne).symm
    rw [eca, List.map_append] at rvc
    obtain ⟨v1, v2, rfl, rv1, rv2⟩ := RpAll.split rvc
    obtain ⟨u, ur, rfl, ru, rv3⟩ := rv2.cons_inv
    have e3 := rv3.nil_inv; subst e3
    obtain ⟨pq, vq, rfl, hpq, haq⟩ := ru.tup_inv
    obtain ⟨y0, yr, rfl, z0, haq⟩ := haq.cons_inv
    obtain ⟨y1, yr, rfl, z1, haq⟩ := haq.cons_inv
    have e4 := haq.nil_inv; subst e4
    have e5 := z0.int_inv; subst e5
    refine rd_tyL hvc ?_
    refine ⟨lc, v1 ++ [.ref pq], .ref pq, rfl, rfl, hvc, by simp, ?_⟩
    rw [List.dropLast_concat]
    have r4 := r.setC rv1
    have nlc : H0 lc = none := n lc (by simp)
    have sm4 : Same H0 (upd H lc (.lst v1)) := same_put R.sm nlc
    have tk4 : Tk H (upd H lc (.lst v1)) := Tk.lst hvc
    have hpq4 := tk4 _ _ hpq
    have z4 := z1.keep tk4
    generalize upd H lc (.lst v1) = H4 at r4 sm4 tk4 hpq4 z4
    walk_at "rd"
    refine ⟨x, dx, _, rfl, r4.hx, rF_no_enter, ?_⟩
    walk_at "rd"
    refine ⟨H0, x, m, hand, cr, { s with ca := s.ca.dropLast }, y1, cw, rfl, ⟨⟨dx, lp, lm, lc, ls, lt, as, vw, r4, n⟩, R.nx, sm4⟩, z4, wf.pt4, fun H6 R6 tk6 => ?_⟩
    walk_at "rd"
    exact k H6 R6 (tk4.trans tk6)
end
open PySem PySem.Spec L2
def afOf (a0 a1 a2 a3 a4 a5 a6 a7 a8 a9 a10 a11 : Addr) (z : Str) : Addr := if z = "set" then a0 else if z = "add" then a1 else if z = "load" then a2 else if z = "store" then a3 else if z = "fetch" then a4 else if z = "keep" then a5 else if z = "aim" then a6 else if z = "move" then a7 else if z = "zero" then a8 else if z = "go" then a9 else if z = "call" then a10 else a11
theorem af_0 {a0 a1 a2 a3 a4 a5 a6 a7 a8 a9 a10 a11 : Addr} : afOf a0 a1 a2 a3 a4 a5 a6 a7 a8 a9 a10 a11 "set" = a0 := by unfold afOf; rw [if_pos rfl]
theorem af_1 {a0 a1 a2 a3 a4 a5 a6 a7 a8 a9 a10 a11 : Addr} : afOf a0 a1 a2 a3 a4 a5 a6 a7 a8 a9 a10 a11 "add" = a1 := by unfold afOf; rw [if_neg (by decide +kernel)]; rw [if_pos rfl]
theorem af_2 {a0 a1 a2 a3 a4 a5 a6 a7 a8 a9 a10 a11 : Addr} : afOf a0 a1 a2 a3 a4 a5 a6 a7 a8 a9 a10 a11 "load" = a2 := by unfold afOf; rw [if_neg (by decide +kernel)]; rw [if_neg (by decide +kernel)]; rw [if_pos rfl]
theorem af_3 {a0 a1 a2 a3 a4 a5 a6 a7 a8 a9 a10 a11 : Addr} : afOf a0 a1 a2 a3 a4 a5 a6 a7 a8 a9 a10 a11 "store" = a3 := by unfold afOf; rw [if_neg (by decide +kernel)]; rw [if_neg (by decide +kernel)]; rw [if_neg (by decide +kernel)]; rw [if_pos rfl]
theorem af_4 {a0 a1 a2 a3 a4 a5 a6 a7 a8 a9 a10 a11 : Addr} : afOf a0 a1 a2 a3 a4 a5 a6 a7 a8 a9 a10 a11 "fetch" = a4 := by unfold afOf; rw [if_neg (by decide +kernel)]; rw [if_neg (by decide +kernel)]; rw [if_neg (by decide +kernel)]; rw [if_neg (by decide +kernel)]; rw [if_pos rfl]
theorem af_5 {a0 a1 a2 a3 a4 a5 a6 a7 a8 a9 a10 a11 : Addr} : afOf a0 a1 a2 a3 a4 a5 a6 a7 a8 a9 a10 a11 "keep" = a5 := by unfold afOf; rw [if_neg (by decide +kernel)]; rw [if_neg (by decide +kernel)]; rw [if_neg (by decide +kernel)]; rw [if_neg (by decide +kernel)]; rw [if_neg (by decide +kernel)]; rw [if_pos rfl]
theorem af_6 {a0 a1 a2 a3 a4 a5 a6 a7 a8 a9 a10 a11 : Addr} : afOf a0 a1 a2 a3 a4 a5 a6 a7 a8 a9 a10 a11 "aim" = a6 := by unfold afOf; rw [if_neg (by decide +kernel)]; rw [if_neg (by decide +kernel)]; rw [if_neg (by decide +kernel)]; rw [if_neg (by decide +kernel)]; rw [if_neg (by decide +kernel)]; rw [if_neg (by decide +kernel)]; rw [if_pos rfl]
theorem af_7 {a0 a1 a2 a3 a4 a5 a6 a7 a8 a9 a10 a11 : Addr} : afOf a0 a1 a2 a3 a4 a5 a6 a7 a8 a9 a10 a11 "move" = a7 := by unfold afOf; rw [if_neg (by decide +kernel)]; rw [if_neg (by decide +kernel)]; rw [if_neg (by decide +kernel)]; rw [if_neg (by decide +kernel)]; rw [if_neg (by decide +kernel)]; rw [if_neg (by decide +kernel)]; rw [if_neg (by decide +kernel)]; rw [if_pos rfl]
theorem af_8 {a0 a1 a2 a3 a4 a5 a6 a7 a8 a9 a10 a11 : Addr} : afOf a0 a1 a2 a3 a4 a5 a6 a7 a8 a9 a10 a11 "zero" = a8 := by unfold afOf; rw [if_neg (by decide +kernel)]; rw [if_neg (by decide +kernel)]; rw [if_neg (by decide +kernel)]; rw [if_neg (by decide +kernel)]; rw [if_neg (by decide +kernel)]; rw [if_neg (by decide +kernel)]; rw [if_neg (by decide +kernel)]; rw [if_neg (by decide +kernel)]; rw [if_pos rfl]
theorem af_9 {a0 a1 a2 a3 a4 a5 a6 a7 a8 a9 a10 a11 : Addr} : afOf a0 a1 a2 a3 a4 a5 a6 a7 a8 a9 a10 a11 "go" = a9 := by unfold afOf; rw [if_neg (by decide +kernel)]; rw [if_neg (by decide +kernel)]; rw [if_neg (by decide +kernel)]; rw [if_neg (by decide +kernel)]; rw [if_neg (by decide +kernel)]; rw [if_neg (by decide +kernel)]; rw [if_neg (by decide +kernel)]; rw [if_neg (by decide +kernel)]; rw [if_neg (by decide +kernel)]; rw [if_pos rfl]
theorem af_10 {a0 a1 a2 a3 a4 a5 a6 a7 a8 a9 a10 a11 : Addr} : afOf a0 a1 a2 a3 a4 a5 a6 a7 a8 a9 a10 a11 "call" = a10 := by unfold afOf; rw [if_neg (by decide +kernel)]; rw [if_neg (by decide +kernel)]; rw [if_neg (by decide +kernel)]; rw [if_neg (by decide +kernel)]; rw [if_neg (by decide +kernel)]; rw [if_neg (by decide +kernel)]; rw [if_neg (by decide +kernel)]; rw [if_neg (by decide +kernel)]; rw [if_neg (by decide +kernel)]; rw [if_neg (by decide +kernel)]; rw [if_pos rfl]
theorem af_11 {a0 a1 a2 a3 a4 a5 a6 a7 a8 a9 a10 a11 : Addr} : afOf a0 a1 a2 a3 a4 a5 a6 a7 a8 a9 a10 a11 "return" = a11 := by unfold afOf; rw [if_neg (by decide +kernel)]; rw [if_neg (by decide +kernel)]; rw [if_neg (by decide +kernel)]; rw [if_neg (by decide +kernel)]; rw [if_neg (by decide +kernel)]; rw [if_neg (by decide +kernel)]; rw [if_neg (by decide +kernel)]; rw [if_neg (by decide +kernel)]; rw [if_neg (by decide +kernel)]; rw [if_neg (by decide +kernel)]; rw [if_neg (by decide +kernel)]
theorem all_mk {l : PySem.W.OpenLaw} {w : World} {K : PySem.W.Frag} {h : Heap} {mg : Str → Option Value} {fa : Addr} (X : K.In h) (G : h.Ns mainGlobals mg) (hfa : mg "law" = some (.ref fa))
    {f1 : Addr} {od1 an1 : Option Addr} {sl1 : Array (Option Value)} {oc1 kV1 dc1 pm1 cd1 ct1 : Value}
    {f2 : Addr} {od2 an2 : Option Addr} {sl2 : Array (Option Value)} {oc2 kV2 dc2 pm2 cd2 ct2 : Value}
    {f3 : Addr} {od3 an3 : Option Addr} {sl3 : Array (Option Value)} {oc3 kV3 dc3 pm3 cd3 ct3 : Value}
    {f4 : Addr} {od4 an4 : Option Addr} {sl4 : Array (Option Value)} {oc4 kV4 dc4 pm4 cd4 ct4 : Value}
    {f5 : Addr} {od5 an5 : Option Addr} {sl5 : Array (Option Value)} {oc5 kV5 dc5 pm5 cd5 ct5 : Value}
    {f6 : Addr} {od6 an6 : Option Addr} {sl6 : Array (Option Value)} {oc6 kV6 dc6 pm6 cd6 ct6 : Value}
    {f7 : Addr} {od7 an7 : Option Addr} {sl7 : Array (Option Value)} {oc7 kV7 dc7 pm7 cd7 ct7 : Value}
    {f8 : Addr} {od8 an8 : Option Addr} {sl8 : Array (Option Value)} {oc8 kV8 dc8 pm8 cd8 ct8 : Value}
    {f9 : Addr} {od9 an9 : Option Addr} {sl9 : Array (Option Value)} {oc9 kV9 dc9 pm9 cd9 ct9 : Value}
    {f10 : Addr} {od10 an10 : Option Addr} {sl10 : Array (Option Value)} {oc10 kV10 dc10 pm10 cd10 ct10 : Value}
    {f11 : Addr} {od11 an11 : Option Addr} {sl11 : Array (Option Value)} {oc11 kV11 dc11 pm11 cd11 ct11 : Value}
    {f12 : Addr} {od12 an12 : Option Addr} {sl12 : Array (Option Value)} {oc12 kV12 dc12 pm12 cd12 ct12 : Value}
    {f13 : Addr} {od13 an13 : Option Addr} {sl13 : Array (Option Value)} {oc13 kV13 dc13 pm13 cd13 ct13 : Value}
    {f14 : Addr} {od14 an14 : Option Addr} {sl14 : Array (Option Value)} {oc14 kV14 dc14 pm14 cd14 ct14 : Value}
    {f15 : Addr} {od15 an15 : Option Addr} {sl15 : Array (Option Value)} {oc15 kV15 dc15 pm15 cd15 ct15 : Value}
    {f16 : Addr} {od16 an16 : Option Addr} {sl16 : Array (Option Value)} {oc16 kV16 dc16 pm16 cd16 ct16 : Value}
    {f17 : Addr} {od17 an17 : Option Addr} {sl17 : Array (Option Value)} {oc17 kV17 dc17 pm17 cd17 ct17 : Value}
    {f18 : Addr} {od18 an18 : Option Addr} {sl18 : Array (Option Value)} {oc18 kV18 dc18 pm18 cd18 ct18 : Value}
    {f19 : Addr} {od19 an19 : Option Addr} {sl19 : Array (Option Value)} {oc19 kV19 dc19 pm19 cd19 ct19 : Value}
    {f20 : Addr} {od20 an20 : Option Addr} {sl20 : Array (Option Value)} {oc20 kV20 dc20 pm20 cd20 ct20 : Value}
    {f21 : Addr} {od21 an21 : Option Addr} {sl21 : Array (Option Value)} {oc21 kV21 dc21 pm21 cd21 ct21 : Value}
    {f22 : Addr} {od22 an22 : Option Addr} {sl22 : Array (Option Value)} {oc22 kV22 dc22 pm22 cd22 ct22 : Value}
    {f23 : Addr} {od23 an23 : Option Addr} {sl23 : Array (Option Value)} {oc23 kV23 dc23 pm23 cd23 ct23 : Value}
    {f24 : Addr} {od24 an24 : Option Addr} {sl24 : Array (Option Value)} {oc24 kV24 dc24 pm24 cd24 ct24 : Value}
    {f25 : Addr} {od25 an25 : Option Addr} {sl25 : Array (Option Value)} {oc25 kV25 dc25 pm25 cd25 ct25 : Value}
    {f26 : Addr} {od26 an26 : Option Addr} {sl26 : Array (Option Value)} {oc26 kV26 dc26 pm26 cd26 ct26 : Value}
    {f27 : Addr} {od27 an27 : Option Addr} {sl27 : Array (Option Value)} {oc27 kV27 dc27 pm27 cd27 ct27 : Value}
    {f28 : Addr} {od28 an28 : Option Addr} {sl28 : Array (Option Value)} {oc28 kV28 dc28 pm28 cd28 ct28 : Value}
    {f29 : Addr} {od29 an29 : Option Addr} {sl29 : Array (Option Value)} {oc29 kV29 dc29 pm29 cd29 ct29 : Value}
    {f30 : Addr} {od30 an30 : Option Addr} {sl30 : Array (Option Value)} {oc30 kV30 dc30 pm30 cd30 ct30 : Value}
    {f31 : Addr} {od31 an31 : Option Addr} {sl31 : Array (Option Value)} {oc31 kV31 dc31 pm31 cd31 ct31 : Value}
    {f32 : Addr} {od32 an32 : Option Addr} {sl32 : Array (Option Value)} {oc32 kV32 dc32 pm32 cd32 ct32 : Value}
    {f33 : Addr} {od33 an33 : Option Addr} {sl33 : Array (Option Value)} {oc33 kV33 dc33 pm33 cd33 ct33 : Value}
    {f34 : Addr} {od34 an34 : Option Addr} {sl34 : Array (Option Value)} {oc34 kV34 dc34 pm34 cd34 ct34 : Value}
    {f35 : Addr} {od35 an35 : Option Addr} {sl35 : Array (Option Value)} {oc35 kV35 dc35 pm35 cd35 ct35 : Value}
    {f36 : Addr} {od36 an36 : Option Addr} {sl36 : Array (Option Value)} {oc36 kV36 dc36 pm36 cd36 ct36 : Value}
    {f37 : Addr} {od37 an37 : Option Addr} {sl37 : Array (Option Value)} {oc37 kV37 dc37 pm37 cd37 ct37 : Value}
    {f38 : Addr} {od38 an38 : Option Addr} {sl38 : Array (Option Value)} {oc38 kV38 dc38 pm38 cd38 ct38 : Value}
    {f39 : Addr} {od39 an39 : Option Addr} {sl39 : Array (Option Value)} {oc39 kV39 dc39 pm39 cd39 ct39 : Value}
    {f40 : Addr} {od40 an40 : Option Addr} {sl40 : Array (Option Value)} {oc40 kV40 dc40 pm40 cd40 ct40 : Value}
    {f41 : Addr} {od41 an41 : Option Addr} {sl41 : Array (Option Value)} {oc41 kV41 dc41 pm41 cd41 ct41 : Value}
    {f42 : Addr} {od42 an42 : Option Addr} {sl42 : Array (Option Value)} {oc42 kV42 dc42 pm42 cd42 ct42 : Value}
    {f43 : Addr} {od43 an43 : Option Addr} {sl43 : Array (Option Value)} {oc43 kV43 dc43 pm43 cd43 ct43 : Value}
    {f44 : Addr} {od44 an44 : Option Addr} {sl44 : Array (Option Value)} {oc44 kV44 dc44 pm44 cd44 ct44 : Value}
    {f45 : Addr} {od45 an45 : Option Addr} {sl45 : Array (Option Value)} {oc45 kV45 dc45 pm45 cd45 ct45 : Value}
    {f46 : Addr} {od46 an46 : Option Addr} {sl46 : Array (Option Value)} {oc46 kV46 dc46 pm46 cd46 ct46 : Value}
    {f47 : Addr} {od47 an47 : Option Addr} {sl47 : Array (Option Value)} {oc47 kV47 dc47 pm47 cd47 ct47 : Value}
    {C : Addr}
    {f48 : Addr} {od48 an48 : Option Addr} {sl48 : Array (Option Value)} {oc48 kV48 dc48 pm48 cd48 ct48 : Value}
    {f49 : Addr} {od49 an49 : Option Addr} {sl49 : Array (Option Value)} {oc49 kV49 dc49 pm49 cd49 ct49 : Value}
    {f50 : Addr} {od50 an50 : Option Addr} {sl50 : Array (Option Value)} {oc50  dc50 pm50 cd50 ct50 : Value}
    {D50 : Addr} {tk50 : Tok}
    {CF : Addr} {nm_F q_F : Str} {N_F : Addr} {bs_F : List Value} {sn_F : _} {sub_F : _} {ab_F : _} {col_F : _} {dd_F : _} {k0_F k1_F k2_F k3_F k5_F : _}
    {f51 : Addr} {od51 an51 : Option Addr} {sl51 : Array (Option Value)} {oc51 kV51 dc51 pm51 cd51 ct51 : Value}
    {CR : Addr}
    {f52 : Addr} {od52 an52 : Option Addr} {sl52 : Array (Option Value)} {oc52 kV52 dc52 pm52 cd52 ct52 : Value}
    {f53 : Addr} {od53 an53 : Option Addr} {sl53 : Array (Option Value)} {oc53 kV53 dc53 pm53 cd53 ct53 : Value}
    {f54 : Addr} {od54 an54 : Option Addr} {sl54 : Array (Option Value)} {oc54 kV54 dc54 pm54 cd54 ct54 : Value}
    {f55 : Addr} {od55 an55 : Option Addr} {sl55 : Array (Option Value)} {oc55 kV55 dc55 pm55 cd55 ct55 : Value}
    {f56 : Addr} {od56 an56 : Option Addr} {sl56 : Array (Option Value)} {oc56 kV56 dc56 pm56 cd56 ct56 : Value}
    {f57 : Addr} {od57 an57 : Option Addr} {sl57 : Array (Option Value)} {oc57 kV57 dc57 pm57 cd57 ct57 : Value}
    {f58 : Addr} {od58 an58 : Option Addr} {sl58 : Array (Option Value)} {oc58 kV58 dc58 pm58 cd58 ct58 : Value}
    {f59 : Addr} {od59 an59 : Option Addr} {sl59 : Array (Option Value)} {oc59 kV59 dc59 pm59 cd59 ct59 : Value}
    {f60 : Addr} {od60 an60 : Option Addr} {sl60 : Array (Option Value)} {oc60 kV60 dc60 pm60 cd60 ct60 : Value}
    {f61 : Addr} {od61 an61 : Option Addr} {sl61 : Array (Option Value)} {oc61 kV61 dc61 pm61 cd61 ct61 : Value}
    {f62 : Addr} {od62 an62 : Option Addr} {sl62 : Array (Option Value)} {oc62 kV62 dc62 pm62 cd62 ct62 : Value}
    {f63 : Addr} {od63 an63 : Option Addr} {sl63 : Array (Option Value)} {oc63  dc63 pm63 cd63 ct63 : Value}
    {D63 : Addr} {tk63 : Tok}
    {AC : Addr} {esA : Array DictEntry} {nA : Nat}
    {t64 : Tok}
    {t65 : Tok}
    {t66 : Tok}
    {t67 : Tok}
    {t68 : Tok}
    {t69 : Tok}
    {t70 : Tok}
    {R : Addr} {es : Array DictEntry} {nR : Nat}
    {q0 : Tok}
    {q1 : Tok}
    {q2 : Tok}
    {q3 : Tok}
    {q4 : Tok}
    {q5 : Tok}
    {q6 : Tok}
    {q7 : Tok}
    {q8 : Tok}
    {q9 : Tok}
    {q10 : Tok}
    {q11 : Tok}
    {TT : Addr} {dT : Option Addr} {nT : Nat} {slT : Array (Option Value)} {u0 : Tok} {u1 : Tok} {u2 : Tok} {u3 : Tok} {u4 : Tok} {u5 : Tok} {u6 : Tok} {u7 : Tok}
    {f88 : Addr} {od88 an88 : Option Addr} {sl88 : Array (Option Value)} {oc88  dc88 pm88 cd88 ct88 : Value}
    {D88 : Addr} {tk88 : Tok}
    {f89 : Addr} {od89 an89 : Option Addr} {sl89 : Array (Option Value)} {oc89  dc89 pm89 cd89 ct89 : Value}
    {D89 : Addr} {tk89 : Tok}
    {f90 : Addr} {od90 an90 : Option Addr} {sl90 : Array (Option Value)} {oc90  dc90 pm90 cd90 ct90 : Value}
    {D90 : Addr} {tk90 : Tok}
    {f91 : Addr} {od91 an91 : Option Addr} {sl91 : Array (Option Value)} {oc91  dc91 pm91 cd91 ct91 : Value}
    {D91 : Addr} {tk91 : Tok}
    {f92 : Addr} {od92 an92 : Option Addr} {sl92 : Array (Option Value)} {oc92  dc92 pm92 cd92 ct92 : Value}
    {D92 : Addr} {tk92 : Tok}
    {CI : Addr}
    {f93 : Addr} {od93 an93 : Option Addr} {sl93 : Array (Option Value)} {oc93 kV93 dc93 pm93 cd93 ct93 : Value}
    {f94 : Addr} {od94 an94 : Option Addr} {sl94 : Array (Option Value)} {oc94 kV94 dc94 pm94 cd94 ct94 : Value}
    {f95 : Addr} {od95 an95 : Option Addr} {sl95 : Array (Option Value)} {oc95 kV95 dc95 pm95 cd95 ct95 : Value}
    {f96 : Addr} {od96 an96 : Option Addr} {sl96 : Array (Option Value)} {oc96 kV96 dc96 pm96 cd96 ct96 : Value}
    {R0 : Addr} {mcR : Value}
    {f97 : Addr} {od97 an97 : Option Addr} {sl97 : Array (Option Value)} {oc97 kV97 dc97 pm97 cd97 ct97 : Value}
    {E_TooMany : Addr} {nm_TooMany q_TooMany : Str} {N_TooMany : Addr} {bs_TooMany : List Value} {sn_TooMany : _} {sub_TooMany : _} {ab_TooMany : _} {col_TooMany : _} {dd_TooMany : _} {k0_TooMany k1_TooMany k2_TooMany k3_TooMany k5_TooMany : _}
    {f98 : Addr} {od98 an98 : Option Addr} {sl98 : Array (Option Value)} {oc98 kV98 dc98 pm98 cd98 ct98 : Value}
    {t99 : Tok}
    (a1 : PySem.W.nsIn K mainGlobals "is_whole" = some (some (.ref f1)))
    (l1 : K.lookup f1 = some ⟨oc1, od1, .func (PySem.W.fnOf "is_whole" "is_whole" (defArgs s_is_whole) (defBody s_is_whole) (defScope s_is_whole) .none kV1 dc1 pm1 an1 cd1 ct1), sl1⟩)
    (c1 : PySem.W.codeIn K cd1 "is_whole" = true)
    (k1 : PySem.W.keepIn K (.ref f1) = true)
    (a2 : PySem.W.nsIn K mainGlobals "is_below" = some (some (.ref f2)))
    (l2 : K.lookup f2 = some ⟨oc2, od2, .func (PySem.W.fnOf "is_below" "is_below" (defArgs s_is_below) (defBody s_is_below) (defScope s_is_below) .none kV2 dc2 pm2 an2 cd2 ct2), sl2⟩)
    (c2 : PySem.W.codeIn K cd2 "is_below" = true)
    (k2 : PySem.W.keepIn K (.ref f2) = true)
    (a3 : PySem.W.nsIn K mainGlobals "is_ring" = some (some (.ref f3)))
    (l3 : K.lookup f3 = some ⟨oc3, od3, .func (PySem.W.fnOf "is_ring" "is_ring" (defArgs s_is_ring) (defBody s_is_ring) (defScope s_is_ring) .none kV3 dc3 pm3 an3 cd3 ct3), sl3⟩)
    (c3 : PySem.W.codeIn K cd3 "is_ring" = true)
    (k3 : PySem.W.keepIn K (.ref f3) = true)
    (a4 : PySem.W.nsIn K mainGlobals "number_fits" = some (some (.ref f4)))
    (l4 : K.lookup f4 = some ⟨oc4, od4, .func (PySem.W.fnOf "number_fits" "number_fits" (defArgs s_number_fits) (defBody s_number_fits) (defScope s_number_fits) .none kV4 dc4 pm4 an4 cd4 ct4), sl4⟩)
    (c4 : PySem.W.codeIn K cd4 "number_fits" = true)
    (k4 : PySem.W.keepIn K (.ref f4) = true)
    (a5 : PySem.W.nsIn K mainGlobals "row_fits" = some (some (.ref f5)))
    (l5 : K.lookup f5 = some ⟨oc5, od5, .func (PySem.W.fnOf "row_fits" "row_fits" (defArgs s_row_fits) (defBody s_row_fits) (defScope s_row_fits) .none kV5 dc5 pm5 an5 cd5 ct5), sl5⟩)
    (c5 : PySem.W.codeIn K cd5 "row_fits" = true)
    (k5 : PySem.W.keepIn K (.ref f5) = true)
    (a6 : PySem.W.nsIn K mainGlobals "word_fits" = some (some (.ref f6)))
    (l6 : K.lookup f6 = some ⟨oc6, od6, .func (PySem.W.fnOf "word_fits" "word_fits" (defArgs s_word_fits) (defBody s_word_fits) (defScope s_word_fits) .none kV6 dc6 pm6 an6 cd6 ct6), sl6⟩)
    (c6 : PySem.W.codeIn K cd6 "word_fits" = true)
    (k6 : PySem.W.keepIn K (.ref f6) = true)
    (a7 : PySem.W.nsIn K mainGlobals "brackets_fit" = some (some (.ref f7)))
    (l7 : K.lookup f7 = some ⟨oc7, od7, .func (PySem.W.fnOf "brackets_fit" "brackets_fit" (defArgs s_brackets_fit) (defBody s_brackets_fit) (defScope s_brackets_fit) .none kV7 dc7 pm7 an7 cd7 ct7), sl7⟩)
    (c7 : PySem.W.codeIn K cd7 "brackets_fit" = true)
    (k7 : PySem.W.keepIn K (.ref f7) = true)
    (a8 : PySem.W.nsIn K mainGlobals "segment_fits" = some (some (.ref f8)))
    (l8 : K.lookup f8 = some ⟨oc8, od8, .func (PySem.W.fnOf "segment_fits" "segment_fits" (defArgs s_segment_fits) (defBody s_segment_fits) (defScope s_segment_fits) .none kV8 dc8 pm8 an8 cd8 ct8), sl8⟩)
    (c8 : PySem.W.codeIn K cd8 "segment_fits" = true)
    (k8 : PySem.W.keepIn K (.ref f8) = true)
    (a9 : PySem.W.nsIn K mainGlobals "may_read" = some (some (.ref f9)))
    (l9 : K.lookup f9 = some ⟨oc9, od9, .func (PySem.W.fnOf "may_read" "may_read" (defArgs s_may_read) (defBody s_may_read) (defScope s_may_read) .none kV9 dc9 pm9 an9 cd9 ct9), sl9⟩)
    (c9 : PySem.W.codeIn K cd9 "may_read" = true)
    (k9 : PySem.W.keepIn K (.ref f9) = true)
    (a10 : PySem.W.nsIn K mainGlobals "may_write" = some (some (.ref f10)))
    (l10 : K.lookup f10 = some ⟨oc10, od10, .func (PySem.W.fnOf "may_write" "may_write" (defArgs s_may_write) (defBody s_may_write) (defScope s_may_write) .none kV10 dc10 pm10 an10 cd10 ct10), sl10⟩)
    (c10 : PySem.W.codeIn K cd10 "may_write" = true)
    (k10 : PySem.W.keepIn K (.ref f10) = true)
    (a11 : PySem.W.nsIn K mainGlobals "raised" = some (some (.ref f11)))
    (l11 : K.lookup f11 = some ⟨oc11, od11, .func (PySem.W.fnOf "raised" "raised" (defArgs s_raised) (defBody s_raised) (defScope s_raised) .none kV11 dc11 pm11 an11 cd11 ct11), sl11⟩)
    (c11 : PySem.W.codeIn K cd11 "raised" = true)
    (k11 : PySem.W.keepIn K (.ref f11) = true)
    (a12 : PySem.W.nsIn K mainGlobals "entered" = some (some (.ref f12)))
    (l12 : K.lookup f12 = some ⟨oc12, od12, .func (PySem.W.fnOf "entered" "entered" (defArgs s_entered) (defBody s_entered) (defScope s_entered) .none kV12 dc12 pm12 an12 cd12 ct12), sl12⟩)
    (c12 : PySem.W.codeIn K cd12 "entered" = true)
    (k12 : PySem.W.keepIn K (.ref f12) = true)
    (a13 : PySem.W.nsIn K mainGlobals "do_set" = some (some (.ref f13)))
    (l13 : K.lookup f13 = some ⟨oc13, od13, .func (PySem.W.fnOf "do_set" "do_set" (defArgs s_do_set) (defBody s_do_set) (defScope s_do_set) .none kV13 dc13 pm13 an13 cd13 ct13), sl13⟩)
    (c13 : PySem.W.codeIn K cd13 "do_set" = true)
    (k13 : PySem.W.keepIn K (.ref f13) = true)
    (a14 : PySem.W.nsIn K mainGlobals "do_add" = some (some (.ref f14)))
    (l14 : K.lookup f14 = some ⟨oc14, od14, .func (PySem.W.fnOf "do_add" "do_add" (defArgs s_do_add) (defBody s_do_add) (defScope s_do_add) .none kV14 dc14 pm14 an14 cd14 ct14), sl14⟩)
    (c14 : PySem.W.codeIn K cd14 "do_add" = true)
    (k14 : PySem.W.keepIn K (.ref f14) = true)
    (a15 : PySem.W.nsIn K mainGlobals "do_load" = some (some (.ref f15)))
    (l15 : K.lookup f15 = some ⟨oc15, od15, .func (PySem.W.fnOf "do_load" "do_load" (defArgs s_do_load) (defBody s_do_load) (defScope s_do_load) .none kV15 dc15 pm15 an15 cd15 ct15), sl15⟩)
    (c15 : PySem.W.codeIn K cd15 "do_load" = true)
    (k15 : PySem.W.keepIn K (.ref f15) = true)
    (a16 : PySem.W.nsIn K mainGlobals "do_store" = some (some (.ref f16)))
    (l16 : K.lookup f16 = some ⟨oc16, od16, .func (PySem.W.fnOf "do_store" "do_store" (defArgs s_do_store) (defBody s_do_store) (defScope s_do_store) .none kV16 dc16 pm16 an16 cd16 ct16), sl16⟩)
    (c16 : PySem.W.codeIn K cd16 "do_store" = true)
    (k16 : PySem.W.keepIn K (.ref f16) = true)
    (a17 : PySem.W.nsIn K mainGlobals "do_fetch" = some (some (.ref f17)))
    (l17 : K.lookup f17 = some ⟨oc17, od17, .func (PySem.W.fnOf "do_fetch" "do_fetch" (defArgs s_do_fetch) (defBody s_do_fetch) (defScope s_do_fetch) .none kV17 dc17 pm17 an17 cd17 ct17), sl17⟩)
    (c17 : PySem.W.codeIn K cd17 "do_fetch" = true)
    (k17 : PySem.W.keepIn K (.ref f17) = true)
    (a18 : PySem.W.nsIn K mainGlobals "do_keep" = some (some (.ref f18)))
    (l18 : K.lookup f18 = some ⟨oc18, od18, .func (PySem.W.fnOf "do_keep" "do_keep" (defArgs s_do_keep) (defBody s_do_keep) (defScope s_do_keep) .none kV18 dc18 pm18 an18 cd18 ct18), sl18⟩)
    (c18 : PySem.W.codeIn K cd18 "do_keep" = true)
    (k18 : PySem.W.keepIn K (.ref f18) = true)
    (a19 : PySem.W.nsIn K mainGlobals "do_aim" = some (some (.ref f19)))
    (l19 : K.lookup f19 = some ⟨oc19, od19, .func (PySem.W.fnOf "do_aim" "do_aim" (defArgs s_do_aim) (defBody s_do_aim) (defScope s_do_aim) .none kV19 dc19 pm19 an19 cd19 ct19), sl19⟩)
    (c19 : PySem.W.codeIn K cd19 "do_aim" = true)
    (k19 : PySem.W.keepIn K (.ref f19) = true)
    (a20 : PySem.W.nsIn K mainGlobals "do_move" = some (some (.ref f20)))
    (l20 : K.lookup f20 = some ⟨oc20, od20, .func (PySem.W.fnOf "do_move" "do_move" (defArgs s_do_move) (defBody s_do_move) (defScope s_do_move) .none kV20 dc20 pm20 an20 cd20 ct20), sl20⟩)
    (c20 : PySem.W.codeIn K cd20 "do_move" = true)
    (k20 : PySem.W.keepIn K (.ref f20) = true)
    (a21 : PySem.W.nsIn K mainGlobals "do_zero" = some (some (.ref f21)))
    (l21 : K.lookup f21 = some ⟨oc21, od21, .func (PySem.W.fnOf "do_zero" "do_zero" (defArgs s_do_zero) (defBody s_do_zero) (defScope s_do_zero) .none kV21 dc21 pm21 an21 cd21 ct21), sl21⟩)
    (c21 : PySem.W.codeIn K cd21 "do_zero" = true)
    (k21 : PySem.W.keepIn K (.ref f21) = true)
    (a22 : PySem.W.nsIn K mainGlobals "do_go" = some (some (.ref f22)))
    (l22 : K.lookup f22 = some ⟨oc22, od22, .func (PySem.W.fnOf "do_go" "do_go" (defArgs s_do_go) (defBody s_do_go) (defScope s_do_go) .none kV22 dc22 pm22 an22 cd22 ct22), sl22⟩)
    (c22 : PySem.W.codeIn K cd22 "do_go" = true)
    (k22 : PySem.W.keepIn K (.ref f22) = true)
    (a23 : PySem.W.nsIn K mainGlobals "do_call" = some (some (.ref f23)))
    (l23 : K.lookup f23 = some ⟨oc23, od23, .func (PySem.W.fnOf "do_call" "do_call" (defArgs s_do_call) (defBody s_do_call) (defScope s_do_call) .none kV23 dc23 pm23 an23 cd23 ct23), sl23⟩)
    (c23 : PySem.W.codeIn K cd23 "do_call" = true)
    (k23 : PySem.W.keepIn K (.ref f23) = true)
    (a24 : PySem.W.nsIn K mainGlobals "do_return" = some (some (.ref f24)))
    (l24 : K.lookup f24 = some ⟨oc24, od24, .func (PySem.W.fnOf "do_return" "do_return" (defArgs s_do_return) (defBody s_do_return) (defScope s_do_return) .none kV24 dc24 pm24 an24 cd24 ct24), sl24⟩)
    (c24 : PySem.W.codeIn K cd24 "do_return" = true)
    (k24 : PySem.W.keepIn K (.ref f24) = true)
    (a25 : PySem.W.nsIn K mainGlobals "act" = some (some (.ref f25)))
    (l25 : K.lookup f25 = some ⟨oc25, od25, .func (PySem.W.fnOf "act" "act" (defArgs s_act) (defBody s_act) (defScope s_act) .none kV25 dc25 pm25 an25 cd25 ct25), sl25⟩)
    (c25 : PySem.W.codeIn K cd25 "act" = true)
    (k25 : PySem.W.keepIn K (.ref f25) = true)
    (a26 : PySem.W.nsIn K mainGlobals "act_on" = some (some (.ref f26)))
    (l26 : K.lookup f26 = some ⟨oc26, od26, .func (PySem.W.fnOf "act_on" "act_on" (defArgs s_act_on) (defBody s_act_on) (defScope s_act_on) .none kV26 dc26 pm26 an26 cd26 ct26), sl26⟩)
    (c26 : PySem.W.codeIn K cd26 "act_on" = true)
    (k26 : PySem.W.keepIn K (.ref f26) = true)
    (a27 : PySem.W.nsIn K mainGlobals "do_deed" = some (some (.ref f27)))
    (l27 : K.lookup f27 = some ⟨oc27, od27, .func (PySem.W.fnOf "do_deed" "do_deed" (defArgs s_do_deed) (defBody s_do_deed) (defScope s_do_deed) .none kV27 dc27 pm27 an27 cd27 ct27), sl27⟩)
    (c27 : PySem.W.codeIn K cd27 "do_deed" = true)
    (k27 : PySem.W.keepIn K (.ref f27) = true)
    (a28 : PySem.W.nsIn K mainGlobals "refuse_faulty" = some (some (.ref f28)))
    (l28 : K.lookup f28 = some ⟨oc28, od28, .func (PySem.W.fnOf "refuse_faulty" "refuse_faulty" (defArgs s_refuse_faulty) (defBody s_refuse_faulty) (defScope s_refuse_faulty) .none kV28 dc28 pm28 an28 cd28 ct28), sl28⟩)
    (c28 : PySem.W.codeIn K cd28 "refuse_faulty" = true)
    (k28 : PySem.W.keepIn K (.ref f28) = true)
    (a29 : PySem.W.nsIn K mainGlobals "first" = some (some (.ref f29)))
    (l29 : K.lookup f29 = some ⟨oc29, od29, .func (PySem.W.fnOf "first" "first" (defArgs s_first) (defBody s_first) (defScope s_first) .none kV29 dc29 pm29 an29 cd29 ct29), sl29⟩)
    (c29 : PySem.W.codeIn K cd29 "first" = true)
    (k29 : PySem.W.keepIn K (.ref f29) = true)
    (a30 : PySem.W.nsIn K mainGlobals "seen" = some (some (.ref f30)))
    (l30 : K.lookup f30 = some ⟨oc30, od30, .func (PySem.W.fnOf "seen" "seen" (defArgs s_seen) (defBody s_seen) (defScope s_seen) .none kV30 dc30 pm30 an30 cd30 ct30), sl30⟩)
    (c30 : PySem.W.codeIn K cd30 "seen" = true)
    (k30 : PySem.W.keepIn K (.ref f30) = true)
    (a31 : PySem.W.nsIn K mainGlobals "frame" = some (some (.ref f31)))
    (l31 : K.lookup f31 = some ⟨oc31, od31, .func (PySem.W.fnOf "frame" "frame" (defArgs s_frame) (defBody s_frame) (defScope s_frame) .none kV31 dc31 pm31 an31 cd31 ct31), sl31⟩)
    (c31 : PySem.W.codeIn K cd31 "frame" = true)
    (k31 : PySem.W.keepIn K (.ref f31) = true)
    (a32 : PySem.W.nsIn K mainGlobals "refuse_pair" = some (some (.ref f32)))
    (l32 : K.lookup f32 = some ⟨oc32, od32, .func (PySem.W.fnOf "refuse_pair" "refuse_pair" (defArgs s_refuse_pair) (defBody s_refuse_pair) (defScope s_refuse_pair) .none kV32 dc32 pm32 an32 cd32 ct32), sl32⟩)
    (c32 : PySem.W.codeIn K cd32 "refuse_pair" = true)
    (k32 : PySem.W.keepIn K (.ref f32) = true)
    (a33 : PySem.W.nsIn K mainGlobals "seen_alike" = some (some (.ref f33)))
    (l33 : K.lookup f33 = some ⟨oc33, od33, .func (PySem.W.fnOf "seen_alike" "seen_alike" (defArgs s_seen_alike) (defBody s_seen_alike) (defScope s_seen_alike) .none kV33 dc33 pm33 an33 cd33 ct33), sl33⟩)
    (c33 : PySem.W.codeIn K cd33 "seen_alike" = true)
    (k33 : PySem.W.keepIn K (.ref f33) = true)
    (a34 : PySem.W.nsIn K mainGlobals "pair_behind" = some (some (.ref f34)))
    (l34 : K.lookup f34 = some ⟨oc34, od34, .func (PySem.W.fnOf "pair_behind" "pair_behind" (defArgs s_pair_behind) (defBody s_pair_behind) (defScope s_pair_behind) .none kV34 dc34 pm34 an34 cd34 ct34), sl34⟩)
    (c34 : PySem.W.codeIn K cd34 "pair_behind" = true)
    (k34 : PySem.W.keepIn K (.ref f34) = true)
    (a35 : PySem.W.nsIn K mainGlobals "search_pairs" = some (some (.ref f35)))
    (l35 : K.lookup f35 = some ⟨oc35, od35, .func (PySem.W.fnOf "search_pairs" "search_pairs" (defArgs s_search_pairs) (defBody s_search_pairs) (defScope s_search_pairs) .none kV35 dc35 pm35 an35 cd35 ct35), sl35⟩)
    (c35 : PySem.W.codeIn K cd35 "search_pairs" = true)
    (k35 : PySem.W.keepIn K (.ref f35) = true)
    (a36 : PySem.W.nsIn K mainGlobals "wish_holds" = some (some (.ref f36)))
    (l36 : K.lookup f36 = some ⟨oc36, od36, .func (PySem.W.fnOf "wish_holds" "wish_holds" (defArgs s_wish_holds) (defBody s_wish_holds) (defScope s_wish_holds) .none kV36 dc36 pm36 an36 cd36 ct36), sl36⟩)
    (c36 : PySem.W.codeIn K cd36 "wish_holds" = true)
    (k36 : PySem.W.keepIn K (.ref f36) = true)
    (a37 : PySem.W.nsIn K mainGlobals "refuse_wish" = some (some (.ref f37)))
    (l37 : K.lookup f37 = some ⟨oc37, od37, .func (PySem.W.fnOf "refuse_wish" "refuse_wish" (defArgs s_refuse_wish) (defBody s_refuse_wish) (defScope s_refuse_wish) .none kV37 dc37 pm37 an37 cd37 ct37), sl37⟩)
    (c37 : PySem.W.codeIn K cd37 "refuse_wish" = true)
    (k37 : PySem.W.keepIn K (.ref f37) = true)
    (a38 : PySem.W.nsIn K mainGlobals "paper_holds" = some (some (.ref f38)))
    (l38 : K.lookup f38 = some ⟨oc38, od38, .func (PySem.W.fnOf "paper_holds" "paper_holds" (defArgs s_paper_holds) (defBody s_paper_holds) (defScope s_paper_holds) .none kV38 dc38 pm38 an38 cd38 ct38), sl38⟩)
    (c38 : PySem.W.codeIn K cd38 "paper_holds" = true)
    (k38 : PySem.W.keepIn K (.ref f38) = true)
    (a39 : PySem.W.nsIn K mainGlobals "search" = some (some (.ref f39)))
    (l39 : K.lookup f39 = some ⟨oc39, od39, .func (PySem.W.fnOf "search" "search" (defArgs s_search) (defBody s_search) (defScope s_search) .none kV39 dc39 pm39 an39 cd39 ct39), sl39⟩)
    (c39 : PySem.W.codeIn K cd39 "search" = true)
    (k39 : PySem.W.keepIn K (.ref f39) = true)
    (a40 : PySem.W.nsIn K mainGlobals "alike_holds" = some (some (.ref f40)))
    (l40 : K.lookup f40 = some ⟨oc40, od40, .func (PySem.W.fnOf "alike_holds" "alike_holds" (defArgs s_alike_holds) (defBody s_alike_holds) (defScope s_alike_holds) .none kV40 dc40 pm40 an40 cd40 ct40), sl40⟩)
    (c40 : PySem.W.codeIn K cd40 "alike_holds" = true)
    (k40 : PySem.W.keepIn K (.ref f40) = true)
    (a41 : PySem.W.nsIn K mainGlobals "_law_bag" = some (some (.ref f41)))
    (l41 : K.lookup f41 = some ⟨oc41, od41, .func (PySem.W.fnOf "_law_bag" "_law_bag" (defArgs s_law_bag) (defBody s_law_bag) (defScope s_law_bag) .none kV41 dc41 pm41 an41 cd41 ct41), sl41⟩)
    (c41 : PySem.W.codeIn K cd41 "_law_bag" = true)
    (k41 : PySem.W.keepIn K (.ref f41) = true)
    (a42 : PySem.W.nsIn K mainGlobals "_law_draw" = some (some (.ref f42)))
    (l42 : K.lookup f42 = some ⟨oc42, od42, .func (PySem.W.fnOf "_law_draw" "_law_draw" (defArgs s_law_draw) (defBody s_law_draw) (defScope s_law_draw) .none kV42 dc42 pm42 an42 cd42 ct42), sl42⟩)
    (c42 : PySem.W.codeIn K cd42 "_law_draw" = true)
    (k42 : PySem.W.keepIn K (.ref f42) = true)
    (a43 : PySem.W.nsIn K mainGlobals "_law_free" = some (some (.ref f43)))
    (l43 : K.lookup f43 = some ⟨oc43, od43, .func (PySem.W.fnOf "_law_free" "_law_free" (defArgs s_law_free) (defBody s_law_free) (defScope s_law_free) .none kV43 dc43 pm43 an43 cd43 ct43), sl43⟩)
    (c43 : PySem.W.codeIn K cd43 "_law_free" = true)
    (k43 : PySem.W.keepIn K (.ref f43) = true)
    (a44 : PySem.W.nsIn K mainGlobals "_law_bound" = some (some (.ref f44)))
    (l44 : K.lookup f44 = some ⟨oc44, od44, .func (PySem.W.fnOf "_law_bound" "_law_bound" (defArgs s_law_bound) (defBody s_law_bound) (defScope s_law_bound) .none kV44 dc44 pm44 an44 cd44 ct44), sl44⟩)
    (c44 : PySem.W.codeIn K cd44 "_law_bound" = true)
    (k44 : PySem.W.keepIn K (.ref f44) = true)
    (a45 : PySem.W.nsIn K mainGlobals "_law_held" = some (some (.ref f45)))
    (l45 : K.lookup f45 = some ⟨oc45, od45, .func (PySem.W.fnOf "_law_held" "_law_held" (defArgs s_law_held) (defBody s_law_held) (defScope s_law_held) .none kV45 dc45 pm45 an45 cd45 ct45), sl45⟩)
    (c45 : PySem.W.codeIn K cd45 "_law_held" = true)
    (k45 : PySem.W.keepIn K (.ref f45) = true)
    (a46 : PySem.W.nsIn K mainGlobals "_law_told" = some (some (.ref f46)))
    (l46 : K.lookup f46 = some ⟨oc46, od46, .func (PySem.W.fnOf "_law_told" "_law_told" (defArgs s_law_told) (defBody s_law_told) (defScope s_law_told) .none kV46 dc46 pm46 an46 cd46 ct46), sl46⟩)
    (c46 : PySem.W.codeIn K cd46 "_law_told" = true)
    (k46 : PySem.W.keepIn K (.ref f46) = true)
    (a47 : PySem.W.nsIn K mainGlobals "law" = some (some (.ref f47)))
    (l47 : K.lookup f47 = some ⟨oc47, od47, .func (PySem.W.fnOf "law" "law" (defArgs s_law) (defBody s_law) (defScope s_law) .none kV47 dc47 pm47 an47 cd47 ct47), sl47⟩)
    (c47 : PySem.W.codeIn K cd47 "law" = true)
    (k47 : PySem.W.keepIn K (.ref f47) = true)
    (aC : PySem.W.nsIn K mainGlobals "Machine" = some (some (.ref C)))
    (pg : PySem.W.plainGet K C Str.empty = true)
    (hd : PySem.W.hasDictIn K C = true)
    (po : PySem.W.plainOver K C = true)
    (sa : PySem.W.findIn K (.ref C) "__setattr__" = some (some (.builtin "object.__setattr__")))
    (mk : PySem.W.makesIn K C = true)
    (kc : PySem.W.keepIn K (.ref C) = true)
    (nS : PySem.W.findIn K (.ref C) "segments" = some none)
    (nB : PySem.W.findIn K (.ref C) "base" = some none)
    (a48 : PySem.W.findIn K (.ref C) "segment" = some (some (.ref f48)))
    (l48 : K.lookup f48 = some ⟨oc48, od48, .func (PySem.W.fnOf "segment" "Machine.segment" (defArgs s_Machine_segment) (defBody s_Machine_segment) (defScope s_Machine_segment) .none kV48 dc48 pm48 an48 cd48 ct48), sl48⟩)
    (c48 : PySem.W.codeIn K cd48 "Machine.segment" = true)
    (k48 : PySem.W.keepIn K (.ref f48) = true)
    (i48 : PySem.W.isFn K (.ref f48) = true)
    (a49 : PySem.W.findIn K (.ref C) "__len__" = some (some (.ref f49)))
    (l49 : K.lookup f49 = some ⟨oc49, od49, .func (PySem.W.fnOf "__len__" "Machine.__len__" (defArgs s_Machine__len) (defBody s_Machine__len) (defScope s_Machine__len) .none kV49 dc49 pm49 an49 cd49 ct49), sl49⟩)
    (c49 : PySem.W.codeIn K cd49 "Machine.__len__" = true)
    (k49 : PySem.W.keepIn K (.ref f49) = true)
    (i49 : PySem.W.isFn K (.ref f49) = true)
    (a50 : PySem.W.findIn K (.ref C) "__init__" = some (some (.ref f50)))
    (l50 : K.lookup f50 = some ⟨oc50, od50, .func (PySem.W.fnOf "__init__" "Machine.__init__" (defArgs s_Machine__init) (defBody s_Machine__init) (defScope s_Machine__init) .none (.ref D50) dc50 pm50 an50 cd50 ct50), sl50⟩)
    (c50 : PySem.W.codeIn K cd50 "Machine.__init__" = true)
    (k50 : PySem.W.keepIn K (.ref f50) = true)
    (d50 : PySem.W.nsIn K D50 "base" = some (some (.int 16 tk50)))
    (i50 : PySem.W.isFn K (.ref f50) = true)
    (e_F : PySem.W.nsIn K mainGlobals "Fault" = some (some (.ref CF)))
    (x_F : K.lookup CF = some (excClassObj nm_F q_F CF N_F bs_F [.type "Exception", .type "BaseException", .type "object"] true sn_F sub_F ab_F col_F dd_F k0_F k1_F k2_F k3_F k5_F "Exception.__new__"))
    (a51 : PySem.W.findIn K (.ref CF) "__init__" = some (some (.ref f51)))
    (l51 : K.lookup f51 = some ⟨oc51, od51, .func (PySem.W.fnOf "__init__" "Fault.__init__" (defArgs s_Fault__init) (defBody s_Fault__init) (defScope s_Fault__init) .none kV51 dc51 pm51 an51 cd51 ct51), sl51⟩)
    (c51 : PySem.W.codeIn K cd51 "Fault.__init__" = true)
    (k51 : PySem.W.keepIn K (.ref f51) = true)
    (t_F : PySem.W.typeIn K (.ref f51) = some (.type "function"))
    (sa_F : PySem.W.findIn K (.ref CF) "__setattr__" = some (some (.builtin "object.__setattr__")))
    (be_F : PySem.W.subIn K (.ref CF) (.type "BaseException") = some true)
    (ty_F : PySem.W.typeIn K (.ref CF) = some (.type "type"))
    (kp_F : PySem.W.keepIn K (.ref CF) = true)
    (wh_F : PySem.W.findIn K (.ref CF) "cause" = some none)
    (ga_F : PySem.W.findIn K (.ref CF) "__getattribute__" = some (some (.builtin "BaseException.__getattribute__")))
    (gg_F : PySem.W.findIn K (.ref CF) "__getattr__" = some none)
    (hd_F : PySem.W.hasDictIn K CF = true)
    (em_F : PySem.W.exmOne K (.ref CF) (.ref CF) = some true)
    (gEx0 : PySem.W.nsIn K mainGlobals "Exception" = some none)
    (vEx : PySem.W.findCls K (.type "Exception") (.type "type") "__init__" = some (.val (.builtin "Exception.__init__")))
    (aRun : PySem.W.nsIn K mainGlobals "Run" = some (some (.ref CR)))
    (pgR : PySem.W.plainGet K CR Str.empty = true)
    (hdR : PySem.W.hasDictIn K CR = true)
    (poR : PySem.W.plainOver K CR = true)
    (saR : PySem.W.findIn K (.ref CR) "__setattr__" = some (some (.builtin "object.__setattr__")))
    (mkR : PySem.W.makesIn K CR = true)
    (kcR : PySem.W.keepIn K (.ref CR) = true)
    (nR_machine : PySem.W.findIn K (.ref CR) "machine" = some none)
    (nR_hand : PySem.W.findIn K (.ref CR) "hand" = some none)
    (nR_ring : PySem.W.findIn K (.ref CR) "ring" = some none)
    (nR_a : PySem.W.findIn K (.ref CR) "a" = some none)
    (nR_pointers : PySem.W.findIn K (.ref CR) "pointers" = some none)
    (nR_memory : PySem.W.findIn K (.ref CR) "memory" = some none)
    (nR_where : PySem.W.findIn K (.ref CR) "where" = some none)
    (nR_calls : PySem.W.findIn K (.ref CR) "calls" = some none)
    (nR_steps : PySem.W.findIn K (.ref CR) "steps" = some none)
    (nR_touches : PySem.W.findIn K (.ref CR) "touches" = some none)
    (a52 : PySem.W.findIn K (.ref CR) "__init__" = some (some (.ref f52)))
    (l52 : K.lookup f52 = some ⟨oc52, od52, .func (PySem.W.fnOf "__init__" "Run.__init__" (defArgs s_Run__init) (defBody s_Run__init) (defScope s_Run__init) .none kV52 dc52 pm52 an52 cd52 ct52), sl52⟩)
    (c52 : PySem.W.codeIn K cd52 "Run.__init__" = true)
    (k52 : PySem.W.keepIn K (.ref f52) = true)
    (i52 : PySem.W.isFn K (.ref f52) = true)
    (a53 : PySem.W.findIn K (.ref CR) "pointer" = some (some (.ref f53)))
    (l53 : K.lookup f53 = some ⟨oc53, od53, .func (PySem.W.fnOf "pointer" "Run.pointer" (defArgs s_Run_pointer) (defBody s_Run_pointer) (defScope s_Run_pointer) .none kV53 dc53 pm53 an53 cd53 ct53), sl53⟩)
    (c53 : PySem.W.codeIn K cd53 "Run.pointer" = true)
    (k53 : PySem.W.keepIn K (.ref f53) = true)
    (i53 : PySem.W.isFn K (.ref f53) = true)
    (a54 : PySem.W.findIn K (.ref CR) "spot" = some (some (.ref f54)))
    (l54 : K.lookup f54 = some ⟨oc54, od54, .func (PySem.W.fnOf "spot" "Run.spot" (defArgs s_Run_spot) (defBody s_Run_spot) (defScope s_Run_spot) .none kV54 dc54 pm54 an54 cd54 ct54), sl54⟩)
    (c54 : PySem.W.codeIn K cd54 "Run.spot" = true)
    (k54 : PySem.W.keepIn K (.ref f54) = true)
    (i54 : PySem.W.isFn K (.ref f54) = true)
    (a55 : PySem.W.findIn K (.ref CR) "read" = some (some (.ref f55)))
    (l55 : K.lookup f55 = some ⟨oc55, od55, .func (PySem.W.fnOf "read" "Run.read" (defArgs s_Run_read) (defBody s_Run_read) (defScope s_Run_read) .none kV55 dc55 pm55 an55 cd55 ct55), sl55⟩)
    (c55 : PySem.W.codeIn K cd55 "Run.read" = true)
    (k55 : PySem.W.keepIn K (.ref f55) = true)
    (i55 : PySem.W.isFn K (.ref f55) = true)
    (a56 : PySem.W.findIn K (.ref CR) "write" = some (some (.ref f56)))
    (l56 : K.lookup f56 = some ⟨oc56, od56, .func (PySem.W.fnOf "write" "Run.write" (defArgs s_Run_write) (defBody s_Run_write) (defScope s_Run_write) .none kV56 dc56 pm56 an56 cd56 ct56), sl56⟩)
    (c56 : PySem.W.codeIn K cd56 "Run.write" = true)
    (k56 : PySem.W.keepIn K (.ref f56) = true)
    (i56 : PySem.W.isFn K (.ref f56) = true)
    (a57 : PySem.W.findIn K (.ref CR) "jump" = some (some (.ref f57)))
    (l57 : K.lookup f57 = some ⟨oc57, od57, .func (PySem.W.fnOf "jump" "Run.jump" (defArgs s_Run_jump) (defBody s_Run_jump) (defScope s_Run_jump) .none kV57 dc57 pm57 an57 cd57 ct57), sl57⟩)
    (c57 : PySem.W.codeIn K cd57 "Run.jump" = true)
    (k57 : PySem.W.keepIn K (.ref f57) = true)
    (i57 : PySem.W.isFn K (.ref f57) = true)
    (a58 : PySem.W.findIn K (.ref CR) "enter" = some (some (.ref f58)))
    (l58 : K.lookup f58 = some ⟨oc58, od58, .func (PySem.W.fnOf "enter" "Run.enter" (defArgs s_Run_enter) (defBody s_Run_enter) (defScope s_Run_enter) .none kV58 dc58 pm58 an58 cd58 ct58), sl58⟩)
    (c58 : PySem.W.codeIn K cd58 "Run.enter" = true)
    (k58 : PySem.W.keepIn K (.ref f58) = true)
    (i58 : PySem.W.isFn K (.ref f58) = true)
    (a59 : PySem.W.findIn K (.ref CR) "next_row" = some (some (.ref f59)))
    (l59 : K.lookup f59 = some ⟨oc59, od59, .func (PySem.W.fnOf "next_row" "Run.next_row" (defArgs s_Run_next_row) (defBody s_Run_next_row) (defScope s_Run_next_row) .none kV59 dc59 pm59 an59 cd59 ct59), sl59⟩)
    (c59 : PySem.W.codeIn K cd59 "Run.next_row" = true)
    (k59 : PySem.W.keepIn K (.ref f59) = true)
    (i59 : PySem.W.isFn K (.ref f59) = true)
    (a60 : PySem.W.findIn K (.ref CR) "not_the_hand" = some (some (.ref f60)))
    (l60 : K.lookup f60 = some ⟨oc60, od60, .func (PySem.W.fnOf "not_the_hand" "Run.not_the_hand" (defArgs s_Run_not_the_hand) (defBody s_Run_not_the_hand) (defScope s_Run_not_the_hand) .none kV60 dc60 pm60 an60 cd60 ct60), sl60⟩)
    (c60 : PySem.W.codeIn K cd60 "Run.not_the_hand" = true)
    (k60 : PySem.W.keepIn K (.ref f60) = true)
    (i60 : PySem.W.isFn K (.ref f60) = true)
    (a61 : PySem.W.findIn K (.ref CR) "forget" = some (some (.ref f61)))
    (l61 : K.lookup f61 = some ⟨oc61, od61, .func (PySem.W.fnOf "forget" "Run.forget" (defArgs s_Run_forget) (defBody s_Run_forget) (defScope s_Run_forget) .none kV61 dc61 pm61 an61 cd61 ct61), sl61⟩)
    (c61 : PySem.W.codeIn K cd61 "Run.forget" = true)
    (k61 : PySem.W.keepIn K (.ref f61) = true)
    (i61 : PySem.W.isFn K (.ref f61) = true)
    (a62 : PySem.W.findIn K (.ref CR) "stand_now" = some (some (.ref f62)))
    (l62 : K.lookup f62 = some ⟨oc62, od62, .func (PySem.W.fnOf "stand_now" "Run.stand_now" (defArgs s_Run_stand_now) (defBody s_Run_stand_now) (defScope s_Run_stand_now) .none kV62 dc62 pm62 an62 cd62 ct62), sl62⟩)
    (c62 : PySem.W.codeIn K cd62 "Run.stand_now" = true)
    (k62 : PySem.W.keepIn K (.ref f62) = true)
    (i62 : PySem.W.isFn K (.ref f62) = true)
    (a63 : PySem.W.nsIn K mainGlobals "done" = some (some (.ref f63)))
    (l63 : K.lookup f63 = some ⟨oc63, od63, .func (PySem.W.fnOf "done" "done" (defArgs s_done) (defBody s_done) (defScope s_done) .none (.ref D63) dc63 pm63 an63 cd63 ct63), sl63⟩)
    (c63 : PySem.W.codeIn K cd63 "done" = true)
    (k63 : PySem.W.keepIn K (.ref f63) = true)
    (d63 : PySem.W.nsIn K D63 "most" = some (some (.int 100 tk63)))
    (aAC : PySem.W.nsIn K mainGlobals "ACTIONS" = some (some (.ref AC)))
    (lAC : K.lookup AC = some ⟨.type "dict", none, .dict esA nA, #[]⟩)
    (kAC : PySem.W.KeysLit w.params esA.toList)
    (ac0 : PySem.W.nsIn K AC "set" = some (some (.ref f13)))
    (ac1 : PySem.W.nsIn K AC "add" = some (some (.ref f14)))
    (ac2 : PySem.W.nsIn K AC "load" = some (some (.ref f15)))
    (ac3 : PySem.W.nsIn K AC "store" = some (some (.ref f16)))
    (ac4 : PySem.W.nsIn K AC "fetch" = some (some (.ref f17)))
    (ac5 : PySem.W.nsIn K AC "keep" = some (some (.ref f18)))
    (ac6 : PySem.W.nsIn K AC "aim" = some (some (.ref f19)))
    (ac7 : PySem.W.nsIn K AC "move" = some (some (.ref f20)))
    (ac8 : PySem.W.nsIn K AC "zero" = some (some (.ref f21)))
    (ac9 : PySem.W.nsIn K AC "go" = some (some (.ref f22)))
    (ac10 : PySem.W.nsIn K AC "call" = some (some (.ref f23)))
    (ac11 : PySem.W.nsIn K AC "return" = some (some (.ref f24)))
    (g64 : PySem.W.nsIn K mainGlobals "RINGS" = some (some (.int 8 t64)))
    (g65 : PySem.W.nsIn K mainGlobals "POINTERS" = some (some (.int 4 t65)))
    (g66 : PySem.W.nsIn K mainGlobals "MOST_SEGMENTS" = some (some (.int 8 t66)))
    (g67 : PySem.W.nsIn K mainGlobals "MOST_WORDS" = some (some (.int 16 t67)))
    (g68 : PySem.W.nsIn K mainGlobals "MOST_ROWS" = some (some (.int 24 t68)))
    (g69 : PySem.W.nsIn K mainGlobals "LEAST_BASE" = some (some (.int 2 t69)))
    (g70 : PySem.W.nsIn K mainGlobals "DEEPEST" = some (some (.int 8 t70)))
    (z71 : PySem.W.nsIn K mainGlobals "len" = some none)
    (z72 : PySem.W.nsIn K mainGlobals "range" = some none)
    (z73 : PySem.W.nsIn K mainGlobals "isinstance" = some none)
    (z74 : PySem.W.nsIn K mainGlobals "all" = some none)
    (z75 : PySem.W.nsIn K mainGlobals "max" = some none)
    (z76 : PySem.W.nsIn K mainGlobals "sorted" = some none)
    (z77 : PySem.W.nsIn K mainGlobals "tuple" = some none)
    (z78 : PySem.W.nsIn K mainGlobals "list" = some none)
    (z79 : PySem.W.nsIn K mainGlobals "int" = some none)
    (z80 : PySem.W.nsIn K mainGlobals "bool" = some none)
    (z81 : PySem.W.nsIn K mainGlobals "str" = some none)
    (z82 : PySem.W.nsIn K mainGlobals "enumerate" = some none)
    (z83 : PySem.W.nsIn K mainGlobals "zip" = some none)
    (z84 : PySem.W.nsIn K mainGlobals "sum" = some none)
    (z85 : PySem.W.nsIn K mainGlobals "min" = some none)
    (z86 : PySem.W.nsIn K mainGlobals "any" = some none)
    (z87 : PySem.W.nsIn K mainGlobals "abs" = some none)
    (aR : PySem.W.nsIn K mainGlobals "ROW_FORMS" = some (some (.ref R)))
    (lR : K.lookup R = some ⟨.type "dict", none, .dict es nR, #[]⟩)
    (kR : PySem.W.KeysLit w.params es.toList)
    (sR : (R == sysModules) = false)
    (r0 : PySem.W.nsIn K R "set" = some (some (.str "n" q0)))
    (r1 : PySem.W.nsIn K R "add" = some (some (.str "n" q1)))
    (r2 : PySem.W.nsIn K R "load" = some (some (.str "pn" q2)))
    (r3 : PySem.W.nsIn K R "store" = some (some (.str "pn" q3)))
    (r4 : PySem.W.nsIn K R "fetch" = some (some (.str "ppn" q4)))
    (r5 : PySem.W.nsIn K R "keep" = some (some (.str "ppn" q5)))
    (r6 : PySem.W.nsIn K R "aim" = some (some (.str "psn" q6)))
    (r7 : PySem.W.nsIn K R "move" = some (some (.str "ppn" q7)))
    (r8 : PySem.W.nsIn K R "zero" = some (some (.str "n" q8)))
    (r9 : PySem.W.nsIn K R "go" = some (some (.str "n" q9)))
    (r10 : PySem.W.nsIn K R "call" = some (some (.str "p" q10)))
    (r11 : PySem.W.nsIn K R "return" = some (some (.str "" q11)))
    (aT : PySem.W.nsIn K mainGlobals "RIGHTS" = some (some (.ref TT)))
    (lT : K.lookup TT = some ⟨.type "tuple", dT, .seq #[.str "" u0, .str "r" u1, .str "w" u2, .str "x" u3, .str "rw" u4, .str "rx" u5, .str "wx" u6, .str "rwx" u7] nT, slT⟩)
    (a88 : PySem.W.nsIn K mainGlobals "stands" = some (some (.ref f88)))
    (l88 : K.lookup f88 = some ⟨oc88, od88, .func (PySem.W.fnOf "stands" "stands" (defArgs s_stands) (defBody s_stands) (defScope s_stands) .none (.ref D88) dc88 pm88 an88 cd88 ct88), sl88⟩)
    (c88 : PySem.W.codeIn K cd88 "stands" = true)
    (k88 : PySem.W.keepIn K (.ref f88) = true)
    (d88 : PySem.W.nsIn K D88 "limit" = some (some (.int 400 tk88)))
    (a89 : PySem.W.nsIn K mainGlobals "way" = some (some (.ref f89)))
    (l89 : K.lookup f89 = some ⟨oc89, od89, .func (PySem.W.fnOf "way" "way" (defArgs s_way) (defBody s_way) (defScope s_way) .none (.ref D89) dc89 pm89 an89 cd89 ct89), sl89⟩)
    (c89 : PySem.W.codeIn K cd89 "way" = true)
    (k89 : PySem.W.keepIn K (.ref f89) = true)
    (d89 : PySem.W.nsIn K D89 "limit" = some (some (.int 400 tk89)))
    (a90 : PySem.W.nsIn K mainGlobals "paper" = some (some (.ref f90)))
    (l90 : K.lookup f90 = some ⟨oc90, od90, .func (PySem.W.fnOf "paper" "paper" (defArgs s_paper) (defBody s_paper) (defScope s_paper) .none (.ref D90) dc90 pm90 an90 cd90 ct90), sl90⟩)
    (c90 : PySem.W.codeIn K cd90 "paper" = true)
    (k90 : PySem.W.keepIn K (.ref f90) = true)
    (d90 : PySem.W.nsIn K D90 "limit" = some (some (.int 400 tk90)))
    (a91 : PySem.W.nsIn K mainGlobals "parting" = some (some (.ref f91)))
    (l91 : K.lookup f91 = some ⟨oc91, od91, .func (PySem.W.fnOf "parting" "parting" (defArgs s_parting) (defBody s_parting) (defScope s_parting) .none (.ref D91) dc91 pm91 an91 cd91 ct91), sl91⟩)
    (c91 : PySem.W.codeIn K cd91 "parting" = true)
    (k91 : PySem.W.keepIn K (.ref f91) = true)
    (d91 : PySem.W.nsIn K D91 "limit" = some (some (.int 400 tk91)))
    (a92 : PySem.W.nsIn K mainGlobals "alike" = some (some (.ref f92)))
    (l92 : K.lookup f92 = some ⟨oc92, od92, .func (PySem.W.fnOf "alike" "alike" (defArgs s_alike) (defBody s_alike) (defScope s_alike) .none (.ref D92) dc92 pm92 an92 cd92 ct92), sl92⟩)
    (c92 : PySem.W.codeIn K cd92 "alike" = true)
    (k92 : PySem.W.keepIn K (.ref f92) = true)
    (d92 : PySem.W.nsIn K D92 "limit" = some (some (.int 400 tk92)))
    (aFi : PySem.W.nsIn K mainGlobals "Finds" = some (some (.ref CI)))
    (pgI : PySem.W.plainGet K CI Str.empty = true)
    (hdI : PySem.W.hasDictIn K CI = true)
    (poI : PySem.W.plainOver K CI = true)
    (saI : PySem.W.findIn K (.ref CI) "__setattr__" = some (some (.builtin "object.__setattr__")))
    (mkI : PySem.W.makesIn K CI = true)
    (kcI : PySem.W.keepIn K (.ref CI) = true)
    (nI_limit : PySem.W.findIn K (.ref CI) "limit" = some none)
    (nI_things : PySem.W.findIn K (.ref CI) "things" = some none)
    (nI_ways : PySem.W.findIn K (.ref CI) "ways" = some none)
    (nI_taken : PySem.W.findIn K (.ref CI) "taken" = some none)
    (a93 : PySem.W.findIn K (.ref CI) "__init__" = some (some (.ref f93)))
    (l93 : K.lookup f93 = some ⟨oc93, od93, .func (PySem.W.fnOf "__init__" "Finds.__init__" (defArgs s_Finds__init) (defBody s_Finds__init) (defScope s_Finds__init) .none kV93 dc93 pm93 an93 cd93 ct93), sl93⟩)
    (c93 : PySem.W.codeIn K cd93 "Finds.__init__" = true)
    (k93 : PySem.W.keepIn K (.ref f93) = true)
    (i93 : PySem.W.isFn K (.ref f93) = true)
    (a94 : PySem.W.findIn K (.ref CI) "more" = some (some (.ref f94)))
    (l94 : K.lookup f94 = some ⟨oc94, od94, .func (PySem.W.fnOf "more" "Finds.more" (defArgs s_Finds_more) (defBody s_Finds_more) (defScope s_Finds_more) .none kV94 dc94 pm94 an94 cd94 ct94), sl94⟩)
    (c94 : PySem.W.codeIn K cd94 "Finds.more" = true)
    (k94 : PySem.W.keepIn K (.ref f94) = true)
    (i94 : PySem.W.isFn K (.ref f94) = true)
    (a95 : PySem.W.findIn K (.ref CI) "take" = some (some (.ref f95)))
    (l95 : K.lookup f95 = some ⟨oc95, od95, .func (PySem.W.fnOf "take" "Finds.take" (defArgs s_Finds_take) (defBody s_Finds_take) (defScope s_Finds_take) .none kV95 dc95 pm95 an95 cd95 ct95), sl95⟩)
    (c95 : PySem.W.codeIn K cd95 "Finds.take" = true)
    (k95 : PySem.W.keepIn K (.ref f95) = true)
    (i95 : PySem.W.isFn K (.ref f95) = true)
    (a96 : PySem.W.findIn K (.ref CI) "put" = some (some (.ref f96)))
    (l96 : K.lookup f96 = some ⟨oc96, od96, .func (PySem.W.fnOf "put" "Finds.put" (defArgs s_Finds_put) (defBody s_Finds_put) (defScope s_Finds_put) .none kV96 dc96 pm96 an96 cd96 ct96), sl96⟩)
    (c96 : PySem.W.codeIn K cd96 "Finds.put" = true)
    (k96 : PySem.W.keepIn K (.ref f96) = true)
    (i96 : PySem.W.isFn K (.ref f96) = true)
    (eR0 : PySem.W.nsIn K mainGlobals "RingError" = some (some (.ref R0)))
    (a97 : PySem.W.findIn K (.ref R0) "__init__" = some (some (.ref f97)))
    (l97 : K.lookup f97 = some ⟨oc97, od97, .func (PySem.W.fnOf "__init__" "RingError.__init__" (defArgs s_RingError__init) (defBody s_RingError__init) (defScope s_RingError__init) .none kV97 dc97 pm97 an97 cd97 ct97), sl97⟩)
    (c97 : PySem.W.codeIn K cd97 "RingError.__init__" = true)
    (k97 : PySem.W.keepIn K (.ref f97) = true)
    (rg0 : PySem.W.specialIn K (.ref R0) "__getattribute__" = some (some (.builtin "type.__getattribute__")))
    (rg1 : PySem.W.typeIn K (.ref R0) = some mcR)
    (rg2 : PySem.W.readsIn K R0 mcR = true)
    (rg3 : PySem.W.findCls K (.ref R0) mcR "__init__" = some (.val (.ref f97)))
    (gVE0 : PySem.W.nsIn K mainGlobals "ValueError" = some none)
    (vVE : PySem.W.findCls K (.type "ValueError") (.type "type") "__init__" = some (.val (.builtin "ValueError.__init__")))
    (hn0 : PySem.W.specialIn K (.builtin "object.__class__") "__get__" = some (some (.builtin "getset_descriptor.__get__")))
    (ht0 : PySem.W.takesIn K (.builtin "object.__class__") = some true)
    (e_TooMany : PySem.W.nsIn K mainGlobals "TooMany" = some (some (.ref E_TooMany)))
    (x_TooMany : K.lookup E_TooMany = some (excClassObj nm_TooMany q_TooMany E_TooMany N_TooMany bs_TooMany [.ref R0, .type "ValueError", .type "Exception", .type "BaseException", .type "object"] true sn_TooMany sub_TooMany ab_TooMany col_TooMany dd_TooMany k0_TooMany k1_TooMany k2_TooMany k3_TooMany k5_TooMany "ValueError.__new__"))
    (a98 : PySem.W.findIn K (.ref E_TooMany) "__init__" = some (some (.ref f98)))
    (l98 : K.lookup f98 = some ⟨oc98, od98, .func (PySem.W.fnOf "__init__" "TooMany.__init__" (defArgs s_TooMany__init) (defBody s_TooMany__init) (defScope s_TooMany__init) .none kV98 dc98 pm98 an98 cd98 ct98), sl98⟩)
    (c98 : PySem.W.codeIn K cd98 "TooMany.__init__" = true)
    (k98 : PySem.W.keepIn K (.ref f98) = true)
    (t_TooMany : PySem.W.typeIn K (.ref f98) = some (.type "function"))
    (sa_TooMany : PySem.W.findIn K (.ref E_TooMany) "__setattr__" = some (some (.builtin "object.__setattr__")))
    (be_TooMany : PySem.W.subIn K (.ref E_TooMany) (.type "BaseException") = some true)
    (ty_TooMany : PySem.W.typeIn K (.ref E_TooMany) = some (.type "type"))
    (kp_TooMany : PySem.W.keepIn K (.ref E_TooMany) = true)
    (wh_TooMany : PySem.W.findIn K (.ref E_TooMany) "what" = some none)
    (ga_TooMany : PySem.W.findIn K (.ref E_TooMany) "__getattribute__" = some (some (.builtin "BaseException.__getattribute__")))
    (gg_TooMany : PySem.W.findIn K (.ref E_TooMany) "__getattr__" = some none)
    (hd_TooMany : PySem.W.hasDictIn K E_TooMany = true)
    (ca_TooMany : PySem.W.findIn K (.ref E_TooMany) "__class__" = some (some (.builtin "object.__class__")))
    (mo_TooMany : PySem.W.mroIn K E_TooMany (.type "object") = some true)
    (em_TooMany : PySem.W.exmOne K (.ref E_TooMany) (.ref E_TooMany) = some true)
    (q0_TooMany : PySem.W.kitOne K (.ref E_TooMany) (.ref R0) = some true)
    (q1_TooMany : PySem.W.kitOne K (.ref E_TooMany) (.type "ValueError") = some true)
    (g99 : PySem.W.nsIn K mainGlobals "LIMIT" = some (some (.int 400 t99))) :
    ∃ fd : FuncData, (∀ (s : Shared) (v : Value), BindsTo s fd ⟨[v], []⟩ [("script", v)]) ∧ ∀ base : Heap, K.In base → base.Ns mainGlobals mg → FnOk l.prog w K mg base CX0 16 fa fd ["script"] (spLaw K) := by
  have F_is_whole := fun_mk (st := s_is_whole) l1 c1 k1
  have m_is_whole := PySem.W.mg_of X G a1
  have F_is_below := fun_mk (st := s_is_below) l2 c2 k2
  have m_is_below := PySem.W.mg_of X G a2
  have F_is_ring := fun_mk (st := s_is_ring) l3 c3 k3
  have m_is_ring := PySem.W.mg_of X G a3
  have F_number_fits := fun_mk (st := s_number_fits) l4 c4 k4
  have m_number_fits := PySem.W.mg_of X G a4
  have F_row_fits := fun_mk (st := s_row_fits) l5 c5 k5
  have m_row_fits := PySem.W.mg_of X G a5
  have F_word_fits := fun_mk (st := s_word_fits) l6 c6 k6
  have m_word_fits := PySem.W.mg_of X G a6
  have F_brackets_fit := fun_mk (st := s_brackets_fit) l7 c7 k7
  have m_brackets_fit := PySem.W.mg_of X G a7
  have F_segment_fits := fun_mk (st := s_segment_fits) l8 c8 k8
  have m_segment_fits := PySem.W.mg_of X G a8
  have F_may_read := fun_mk (st := s_may_read) l9 c9 k9
  have m_may_read := PySem.W.mg_of X G a9
  have F_may_write := fun_mk (st := s_may_write) l10 c10 k10
  have m_may_write := PySem.W.mg_of X G a10
  have F_raised := fun_mk (st := s_raised) l11 c11 k11
  have m_raised := PySem.W.mg_of X G a11
  have F_entered := fun_mk (st := s_entered) l12 c12 k12
  have m_entered := PySem.W.mg_of X G a12
  have F_do_set := fun_mk (st := s_do_set) l13 c13 k13
  have m_do_set := PySem.W.mg_of X G a13
  have F_do_add := fun_mk (st := s_do_add) l14 c14 k14
  have m_do_add := PySem.W.mg_of X G a14
  have F_do_load := fun_mk (st := s_do_load) l15 c15 k15
  have m_do_load := PySem.W.mg_of X G a15
  have F_do_store := fun_mk (st := s_do_store) l16 c16 k16
  have m_do_store := PySem.W.mg_of X G a16
  have F_do_fetch := fun_mk (st := s_do_fetch) l17 c17 k17
  have m_do_fetch := PySem.W.mg_of X G a17
  have F_do_keep := fun_mk (st := s_do_keep) l18 c18 k18
  have m_do_keep := PySem.W.mg_of X G a18
  have F_do_aim := fun_mk (st := s_do_aim) l19 c19 k19
  have m_do_aim := PySem.W.mg_of X G a19
  have F_do_move := fun_mk (st := s_do_move) l20 c20 k20
  have m_do_move := PySem.W.mg_of X G a20
  have F_do_zero := fun_mk (st := s_do_zero) l21 c21 k21
  have m_do_zero := PySem.W.mg_of X G a21
  have F_do_go := fun_mk (st := s_do_go) l22 c22 k22
  have m_do_go := PySem.W.mg_of X G a22
  have F_do_call := fun_mk (st := s_do_call) l23 c23 k23
  have m_do_call := PySem.W.mg_of X G a23
  have F_do_return := fun_mk (st := s_do_return) l24 c24 k24
  have m_do_return := PySem.W.mg_of X G a24
  have F_act := fun_mk (st := s_act) l25 c25 k25
  have m_act := PySem.W.mg_of X G a25
  have F_act_on := fun_mk (st := s_act_on) l26 c26 k26
  have m_act_on := PySem.W.mg_of X G a26
  have F_do_deed := fun_mk (st := s_do_deed) l27 c27 k27
  have m_do_deed := PySem.W.mg_of X G a27
  have F_refuse_faulty := fun_mk (st := s_refuse_faulty) l28 c28 k28
  have m_refuse_faulty := PySem.W.mg_of X G a28
  have F_first := fun_mk (st := s_first) l29 c29 k29
  have m_first := PySem.W.mg_of X G a29
  have F_seen := fun_mk (st := s_seen) l30 c30 k30
  have m_seen := PySem.W.mg_of X G a30
  have F_frame := fun_mk (st := s_frame) l31 c31 k31
  have m_frame := PySem.W.mg_of X G a31
  have F_refuse_pair := fun_mk (st := s_refuse_pair) l32 c32 k32
  have m_refuse_pair := PySem.W.mg_of X G a32
  have F_seen_alike := fun_mk (st := s_seen_alike) l33 c33 k33
  have m_seen_alike := PySem.W.mg_of X G a33
  have F_pair_behind := fun_mk (st := s_pair_behind) l34 c34 k34
  have m_pair_behind := PySem.W.mg_of X G a34
  have F_search_pairs := fun_mk (st := s_search_pairs) l35 c35 k35
  have m_search_pairs := PySem.W.mg_of X G a35
  have F_wish_holds := fun_mk (st := s_wish_holds) l36 c36 k36
  have m_wish_holds := PySem.W.mg_of X G a36
  have F_refuse_wish := fun_mk (st := s_refuse_wish) l37 c37 k37
  have m_refuse_wish := PySem.W.mg_of X G a37
  have F_paper_holds := fun_mk (st := s_paper_holds) l38 c38 k38
  have m_paper_holds := PySem.W.mg_of X G a38
  have F_search := fun_mk (st := s_search) l39 c39 k39
  have m_search := PySem.W.mg_of X G a39
  have F_alike_holds := fun_mk (st := s_alike_holds) l40 c40 k40
  have m_alike_holds := PySem.W.mg_of X G a40
  have F_law_bag := fun_mk (st := s_law_bag) l41 c41 k41
  have m_law_bag := PySem.W.mg_of X G a41
  have F_law_draw := fun_mk (st := s_law_draw) l42 c42 k42
  have m_law_draw := PySem.W.mg_of X G a42
  have F_law_free := fun_mk (st := s_law_free) l43 c43 k43
  have m_law_free := PySem.W.mg_of X G a43
  have F_law_bound := fun_mk (st := s_law_bound) l44 c44 k44
  have m_law_bound := PySem.W.mg_of X G a44
  have F_law_held := fun_mk (st := s_law_held) l45 c45 k45
  have m_law_held := PySem.W.mg_of X G a45
  have F_law_told := fun_mk (st := s_law_told) l46 c46 k46
  have m_law_told := PySem.W.mg_of X G a46
  have F_law := fun_mk (st := s_law) l47 c47 k47
  have m_law := PySem.W.mg_of X G a47
  have T : MC K mg C := ⟨⟨pg, hd, po, sa⟩, nS, nB, PySem.W.mg_of X G aC⟩
  have F_Machine_segment := fun_mk (st := s_Machine_segment) l48 c48 k48
  have F_Machine__len := fun_mk (st := s_Machine__len) l49 c49 k49
  have F_init : FunD K "__init__" "Machine.__init__" (defArgs s_Machine__init) (defBody s_Machine__init) (defScope s_Machine__init) [] [("base", .int 16)] f50 (PySem.W.fnOf "__init__" "Machine.__init__" (defArgs s_Machine__init) (defBody s_Machine__init) (defScope s_Machine__init) .none (.ref D50) dc50 pm50 an50 cd50 ct50) := ⟨⟨_, _, _, _, _, _, _, _, _, _, rfl, l50, c50, .inl ⟨rfl, rfl⟩, .inr ⟨_, rfl, fun q hq => by rw [List.mem_singleton.mp hq]; exact ⟨_, d50, ⟨_, rfl⟩⟩⟩⟩, k50⟩
  obtain ⟨mv1, kb1⟩ := F_init.kbinds0 (ps := ["self", "segments", "base"]) 2 ["base"] [] (fun us _ ws => us ++ ws) (by simp) (fun q hq => nomatch hq) (fun r1 _ r3 => r1.append r3) fun D doc pm an cdv ct us mv ws hl hk hw => match us, mv, ws, hl, hk, hw with
    | [_, _], [], [_], _, _, _ => rfl
  have F_F := fun_mk (st := s_Fault__init) l51 c51 k51
  have b_F := F_F.binds (ps := ["self", "cause"]) fun _ _ _ _ _ _ us hl => match us, hl with | [_, _], _ => rfl
  have xf_F : XfC K CF := ⟨ga_F, gg_F, be_F, hd_F⟩
  have ox_F : OexE K CF := ⟨⟨_, _, _, _, _, _, _, _, _, _, _, _, _, _, x_F⟩, sa_F, be_F, ty_F, kp_F⟩
  have TR : RCl K mg CR := ⟨⟨pgR, hdR, poR, saR⟩, nR_machine, nR_hand, nR_ring, nR_a, nR_pointers, nR_memory, nR_where, nR_calls, nR_steps, nR_touches, PySem.W.mg_of X G aRun⟩
  have F_Run__init := fun_mk (st := s_Run__init) l52 c52 k52
  have F_Run_pointer := fun_mk (st := s_Run_pointer) l53 c53 k53
  have F_Run_spot := fun_mk (st := s_Run_spot) l54 c54 k54
  have F_Run_read := fun_mk (st := s_Run_read) l55 c55 k55
  have F_Run_write := fun_mk (st := s_Run_write) l56 c56 k56
  have F_Run_jump := fun_mk (st := s_Run_jump) l57 c57 k57
  have F_Run_enter := fun_mk (st := s_Run_enter) l58 c58 k58
  have F_Run_next_row := fun_mk (st := s_Run_next_row) l59 c59 k59
  have F_Run_not_the_hand := fun_mk (st := s_Run_not_the_hand) l60 c60 k60
  have F_Run_forget := fun_mk (st := s_Run_forget) l61 c61 k61
  have F_Run_stand_now := fun_mk (st := s_Run_stand_now) l62 c62 k62
  have bRI := F_Run__init.binds (ps := ["self", "machine", "stand"]) fun _ _ _ _ _ _ us hl => match us, hl with | [_, _, _], _ => rfl
  have F_done : FunD K "done" "done" (defArgs s_done) (defBody s_done) (defScope s_done) [] [("most", .int 100)] f63 (PySem.W.fnOf "done" "done" (defArgs s_done) (defBody s_done) (defScope s_done) .none (.ref D63) dc63 pm63 an63 cd63 ct63) := ⟨⟨_, _, _, _, _, _, _, _, _, _, rfl, l63, c63, .inl ⟨rfl, rfl⟩, .inr ⟨_, rfl, fun q hq => by rw [List.mem_singleton.mp hq]; exact ⟨_, d63, ⟨_, rfl⟩⟩⟩⟩, k63⟩
  have m_done := PySem.W.mg_of X G a63
  obtain ⟨ds_done, v_done, b_done⟩ := F_done.binds0 (ps := ["machine", "stand", "deed", "most"]) 3 (by simp) rfl fun D doc pm an cdv ct us ks hl hk => match us, ks, hl, hk with
    | [_, _, _], [_], _, _ => ⟨_, _, _, _, _, _, rfl, rfl, rfl⟩
  obtain ⟨mvD, kbD⟩ := F_done.kbinds0 (ps := ["machine", "stand", "deed", "most"]) 3 ["most"] [] (fun us _ ws => us ++ ws) (by simp) (fun q hq => nomatch hq) (fun r1 _ r3 => r1.append r3) fun D doc pm an cdv ct us mv ws hl hk hw => match us, mv, ws, hl, hk, hw with
    | [_, _, _], [], [_], _, _, _ => rfl
  have GA : GAct K w mg (afOf f13 f14 f15 f16 f17 f18 f19 f20 f21 f22 f23 f24) := by
    refine ⟨AC, PySem.W.mg_of X G aAC, fun z hz => ?_⟩
    unfold actOps at hz
    simp only [List.mem_cons, List.not_mem_nil, or_false] at hz
    rcases hz with rfl | rfl | rfl | rfl | rfl | rfl | rfl | rfl | rfl | rfl | rfl | rfl
    · exact ⟨_, _, _, lAC, kAC, ac0, by rw [af_0]; rfl⟩
    · exact ⟨_, _, _, lAC, kAC, ac1, by rw [af_1]; rfl⟩
    · exact ⟨_, _, _, lAC, kAC, ac2, by rw [af_2]; rfl⟩
    · exact ⟨_, _, _, lAC, kAC, ac3, by rw [af_3]; rfl⟩
    · exact ⟨_, _, _, lAC, kAC, ac4, by rw [af_4]; rfl⟩
    · exact ⟨_, _, _, lAC, kAC, ac5, by rw [af_5]; rfl⟩
    · exact ⟨_, _, _, lAC, kAC, ac6, by rw [af_6]; rfl⟩
    · exact ⟨_, _, _, lAC, kAC, ac7, by rw [af_7]; rfl⟩
    · exact ⟨_, _, _, lAC, kAC, ac8, by rw [af_8]; rfl⟩
    · exact ⟨_, _, _, lAC, kAC, ac9, by rw [af_9]; rfl⟩
    · exact ⟨_, _, _, lAC, kAC, ac10, by rw [af_10]; rfl⟩
    · exact ⟨_, _, _, lAC, kAC, ac11, by rw [af_11]; rfl⟩
  have G_RINGS : GI mg "RINGS" 8 := ⟨_, PySem.W.mg_of X G g64⟩
  have G_POINTERS : GI mg "POINTERS" 4 := ⟨_, PySem.W.mg_of X G g65⟩
  have G_MOST_SEGMENTS : GI mg "MOST_SEGMENTS" 8 := ⟨_, PySem.W.mg_of X G g66⟩
  have G_MOST_WORDS : GI mg "MOST_WORDS" 16 := ⟨_, PySem.W.mg_of X G g67⟩
  have G_MOST_ROWS : GI mg "MOST_ROWS" 24 := ⟨_, PySem.W.mg_of X G g68⟩
  have G_LEAST_BASE : GI mg "LEAST_BASE" 2 := ⟨_, PySem.W.mg_of X G g69⟩
  have G_DEEPEST : GI mg "DEEPEST" 8 := ⟨_, PySem.W.mg_of X G g70⟩
  have B : BT mg := ⟨PySem.W.mg_none_of X G z71, PySem.W.mg_none_of X G z72, PySem.W.mg_none_of X G z73, PySem.W.mg_none_of X G z74, PySem.W.mg_none_of X G z75, PySem.W.mg_none_of X G z76, PySem.W.mg_none_of X G z77, PySem.W.mg_none_of X G z78, PySem.W.mg_none_of X G z79, PySem.W.mg_none_of X G z80, PySem.W.mg_none_of X G z81, PySem.W.mg_none_of X G z82, PySem.W.mg_none_of X G z83, PySem.W.mg_none_of X G z84, PySem.W.mg_none_of X G z85, PySem.W.mg_none_of X G z86, PySem.W.mg_none_of X G z87⟩
  have G_RIGHTS : GTu K mg "RIGHTS" (rightsL.map V.str) := ⟨TT, PySem.W.mg_of X G aT, fun H => .inr ⟨_, _, _, lT, rfl, rfl, by show 8 ≤ sizeLine; decide, .cons ⟨_, rfl⟩ (.cons ⟨_, rfl⟩ (.cons ⟨_, rfl⟩ (.cons ⟨_, rfl⟩ (.cons ⟨_, rfl⟩ (.cons ⟨_, rfl⟩ (.cons ⟨_, rfl⟩ (.cons ⟨_, rfl⟩ (.nil))))))))⟩⟩
  have G_ROW_FORMS : GFo K w mg := by
    refine ⟨R, PySem.W.mg_of X G aR, ⟨_, _, lR⟩, fun z l h => ?_⟩
    have hm := form_mem h
    simp only [rowForms, List.mem_cons, List.mem_nil_iff, or_false, Prod.mk.injEq] at hm
    rcases hm with ⟨rfl, rfl⟩ | ⟨rfl, rfl⟩ | ⟨rfl, rfl⟩ | ⟨rfl, rfl⟩ | ⟨rfl, rfl⟩ | ⟨rfl, rfl⟩ | ⟨rfl, rfl⟩ | ⟨rfl, rfl⟩ | ⟨rfl, rfl⟩ | ⟨rfl, rfl⟩ | ⟨rfl, rfl⟩ | ⟨rfl, rfl⟩
    · exact ⟨_, _, _, lR, kR, sR, r0, ⟨_, rfl⟩⟩
    · exact ⟨_, _, _, lR, kR, sR, r1, ⟨_, rfl⟩⟩
    · exact ⟨_, _, _, lR, kR, sR, r2, ⟨_, rfl⟩⟩
    · exact ⟨_, _, _, lR, kR, sR, r3, ⟨_, rfl⟩⟩
    · exact ⟨_, _, _, lR, kR, sR, r4, ⟨_, rfl⟩⟩
    · exact ⟨_, _, _, lR, kR, sR, r5, ⟨_, rfl⟩⟩
    · exact ⟨_, _, _, lR, kR, sR, r6, ⟨_, rfl⟩⟩
    · exact ⟨_, _, _, lR, kR, sR, r7, ⟨_, rfl⟩⟩
    · exact ⟨_, _, _, lR, kR, sR, r8, ⟨_, rfl⟩⟩
    · exact ⟨_, _, _, lR, kR, sR, r9, ⟨_, rfl⟩⟩
    · exact ⟨_, _, _, lR, kR, sR, r10, ⟨_, rfl⟩⟩
    · exact ⟨_, _, _, lR, kR, sR, r11, ⟨_, rfl⟩⟩
  have F_stands : FunD K "stands" "stands" (defArgs s_stands) (defBody s_stands) (defScope s_stands) [] [("limit", .int 400)] f88 (PySem.W.fnOf "stands" "stands" (defArgs s_stands) (defBody s_stands) (defScope s_stands) .none (.ref D88) dc88 pm88 an88 cd88 ct88) := ⟨⟨_, _, _, _, _, _, _, _, _, _, rfl, l88, c88, .inl ⟨rfl, rfl⟩, .inr ⟨_, rfl, fun q hq => by rw [List.mem_singleton.mp hq]; exact ⟨_, d88, ⟨_, rfl⟩⟩⟩⟩, k88⟩
  have m_stands := PySem.W.mg_of X G a88
  obtain ⟨ds_stands, v_stands, b_stands⟩ := F_stands.binds0 (ps := ["machine", "stand", "menu", "limit"]) 3 (by simp) rfl fun D doc pm an cdv ct us ks hl hk => match us, ks, hl, hk with
    | [_, _, _], [_], _, _ => ⟨_, _, _, _, _, _, rfl, rfl, rfl⟩
  obtain ⟨mvS, kbst⟩ := F_stands.kbinds0 (ps := ["machine", "stand", "menu", "limit"]) 3 ["limit"] [] (fun us _ ws => us ++ ws) (by simp) (fun q hq => nomatch hq) (fun r1 _ r3 => r1.append r3) fun D doc pm an cdv ct us mv ws hl hk hw => match us, mv, ws, hl, hk, hw with
    | [_, _, _], [], [_], _, _, _ => rfl
  have F_way : FunD K "way" "way" (defArgs s_way) (defBody s_way) (defScope s_way) [] [("limit", .int 400)] f89 (PySem.W.fnOf "way" "way" (defArgs s_way) (defBody s_way) (defScope s_way) .none (.ref D89) dc89 pm89 an89 cd89 ct89) := ⟨⟨_, _, _, _, _, _, _, _, _, _, rfl, l89, c89, .inl ⟨rfl, rfl⟩, .inr ⟨_, rfl, fun q hq => by rw [List.mem_singleton.mp hq]; exact ⟨_, d89, ⟨_, rfl⟩⟩⟩⟩, k89⟩
  have m_way := PySem.W.mg_of X G a89
  obtain ⟨ds_way, v_way, b_way⟩ := F_way.binds0 (ps := ["machine", "stand", "menu", "wish", "limit"]) 4 (by simp) rfl fun D doc pm an cdv ct us ks hl hk => match us, ks, hl, hk with
    | [_, _, _, _], [_], _, _ => ⟨_, _, _, _, _, _, rfl, rfl, rfl⟩
  obtain ⟨mvwy, kbwy⟩ := F_way.kbinds0 (ps := ["machine", "stand", "menu", "wish", "limit"]) 4 ["limit"] [] (fun us _ ws => us ++ ws) (by simp) (fun q hq => nomatch hq) (fun r1 _ r3 => r1.append r3) fun D doc pm an cdv ct us mv ws hl hk hw => match us, mv, ws, hl, hk, hw with
    | [_, _, _, _], [], [_], _, _, _ => rfl
  have F_paper : FunD K "paper" "paper" (defArgs s_paper) (defBody s_paper) (defScope s_paper) [] [("limit", .int 400)] f90 (PySem.W.fnOf "paper" "paper" (defArgs s_paper) (defBody s_paper) (defScope s_paper) .none (.ref D90) dc90 pm90 an90 cd90 ct90) := ⟨⟨_, _, _, _, _, _, _, _, _, _, rfl, l90, c90, .inl ⟨rfl, rfl⟩, .inr ⟨_, rfl, fun q hq => by rw [List.mem_singleton.mp hq]; exact ⟨_, d90, ⟨_, rfl⟩⟩⟩⟩, k90⟩
  have m_paper := PySem.W.mg_of X G a90
  obtain ⟨ds_paper, v_paper, b_paper⟩ := F_paper.binds0 (ps := ["machine", "stand", "menu", "wish", "limit"]) 4 (by simp) rfl fun D doc pm an cdv ct us ks hl hk => match us, ks, hl, hk with
    | [_, _, _, _], [_], _, _ => ⟨_, _, _, _, _, _, rfl, rfl, rfl⟩
  obtain ⟨mvpa, kbpa⟩ := F_paper.kbinds0 (ps := ["machine", "stand", "menu", "wish", "limit"]) 4 ["limit"] [] (fun us _ ws => us ++ ws) (by simp) (fun q hq => nomatch hq) (fun r1 _ r3 => r1.append r3) fun D doc pm an cdv ct us mv ws hl hk hw => match us, mv, ws, hl, hk, hw with
    | [_, _, _, _], [], [_], _, _, _ => rfl
  have F_parting : FunD K "parting" "parting" (defArgs s_parting) (defBody s_parting) (defScope s_parting) [] [("limit", .int 400)] f91 (PySem.W.fnOf "parting" "parting" (defArgs s_parting) (defBody s_parting) (defScope s_parting) .none (.ref D91) dc91 pm91 an91 cd91 ct91) := ⟨⟨_, _, _, _, _, _, _, _, _, _, rfl, l91, c91, .inl ⟨rfl, rfl⟩, .inr ⟨_, rfl, fun q hq => by rw [List.mem_singleton.mp hq]; exact ⟨_, d91, ⟨_, rfl⟩⟩⟩⟩, k91⟩
  have m_parting := PySem.W.mg_of X G a91
  obtain ⟨ds_parting, v_parting, b_parting⟩ := F_parting.binds0 (ps := ["one", "other", "stand", "other_stand", "menu", "limit"]) 5 (by simp) rfl fun D doc pm an cdv ct us ks hl hk => match us, ks, hl, hk with
    | [_, _, _, _, _], [_], _, _ => ⟨_, _, _, _, _, _, rfl, rfl, rfl⟩
  obtain ⟨mvpt, kbpt⟩ := F_parting.kbinds0 (ps := ["one", "other", "stand", "other_stand", "menu", "limit"]) 5 ["limit"] [] (fun us _ ws => us ++ ws) (by simp) (fun q hq => nomatch hq) (fun r1 _ r3 => r1.append r3) fun D doc pm an cdv ct us mv ws hl hk hw => match us, mv, ws, hl, hk, hw with
    | [_, _, _, _, _], [], [_], _, _, _ => rfl
  have F_alike : FunD K "alike" "alike" (defArgs s_alike) (defBody s_alike) (defScope s_alike) [] [("limit", .int 400)] f92 (PySem.W.fnOf "alike" "alike" (defArgs s_alike) (defBody s_alike) (defScope s_alike) .none (.ref D92) dc92 pm92 an92 cd92 ct92) := ⟨⟨_, _, _, _, _, _, _, _, _, _, rfl, l92, c92, .inl ⟨rfl, rfl⟩, .inr ⟨_, rfl, fun q hq => by rw [List.mem_singleton.mp hq]; exact ⟨_, d92, ⟨_, rfl⟩⟩⟩⟩, k92⟩
  have m_alike := PySem.W.mg_of X G a92
  obtain ⟨ds_alike, v_alike, b_alike⟩ := F_alike.binds0 (ps := ["one", "other", "stand", "other_stand", "menu", "limit"]) 5 (by simp) rfl fun D doc pm an cdv ct us ks hl hk => match us, ks, hl, hk with
    | [_, _, _, _, _], [_], _, _ => ⟨_, _, _, _, _, _, rfl, rfl, rfl⟩
  obtain ⟨mval, kbal⟩ := F_alike.kbinds0 (ps := ["one", "other", "stand", "other_stand", "menu", "limit"]) 5 ["limit"] [] (fun us _ ws => us ++ ws) (by simp) (fun q hq => nomatch hq) (fun r1 _ r3 => r1.append r3) fun D doc pm an cdv ct us mv ws hl hk hw => match us, mv, ws, hl, hk, hw with
    | [_, _, _, _, _], [], [_], _, _, _ => rfl
  have TI : FiC K mg CI := ⟨⟨pgI, hdI, poI, saI⟩, nI_limit, nI_things, nI_ways, nI_taken, PySem.W.mg_of X G aFi⟩
  have F_Finds__init := fun_mk (st := s_Finds__init) l93 c93 k93
  have F_Finds_more := fun_mk (st := s_Finds_more) l94 c94 k94
  have F_Finds_take := fun_mk (st := s_Finds_take) l95 c95 k95
  have F_Finds_put := fun_mk (st := s_Finds_put) l96 c96 k96
  have bFI := F_Finds__init.binds (ps := ["self", "start", "limit"]) fun _ _ _ _ _ _ us hl => match us, hl with | [_, _, _], _ => rfl
  have F_RE := fun_mk (st := s_RingError__init) l97 c97 k97
  have gVE := PySem.W.mg_none_of X G gVE0
  have N0 := PySem.W.mg_of X G eR0
  have bRE := F_RE.binds (ps := ["self", "what"]) fun _ _ _ _ _ _ us hl => match us, hl with | [_, _], _ => rfl
  have U_RE : UbC K mg "RingError" "__init__" f97 := ⟨R0, mcR, PySem.W.mg_of X G eR0, rg0, rg1, rg2, rg3, k97⟩
  have F_TooMany := fun_mk (st := s_TooMany__init) l98 c98 k98
  have b_TooMany := F_TooMany.binds (ps := ["self", "what"]) fun _ _ _ _ _ _ us hl => match us, hl with | [_, _], _ => rfl
  have xf_TooMany : XfC K E_TooMany := ⟨ga_TooMany, gg_TooMany, be_TooMany, hd_TooMany⟩
  have XI_TooMany : ExI K E_TooMany := ⟨xf_TooMany, ca_TooMany, hn0, ht0, mo_TooMany⟩
  have ox_TooMany : OexC K E_TooMany := ⟨⟨_, _, _, _, _, _, _, _, _, _, _, _, _, _, _, x_TooMany, by rfl⟩, sa_TooMany, be_TooMany, ty_TooMany, kp_TooMany⟩
  have G_LIMIT : GI mg "LIMIT" 400 := ⟨_, PySem.W.mg_of X G g99⟩
  have e := hfa.symm.trans m_law
  cases e
  refine ⟨PySem.W.fnOf "law" "law" (defArgs s_law) (defBody s_law) (defScope s_law) .none kV47 dc47 pm47 an47 cd47 ct47, fun s v => .of_eq rfl, fun base _ _ => ?_⟩
  have c1 := ok_whole (P := l.prog) (w := w) (base := base) B F_is_whole m_is_whole
  have c2 := ok_below (P := l.prog) (w := w) (base := base) B F_is_below m_is_below c1
  have c3 := ok_ring (P := l.prog) (w := w) (base := base) B F_is_ring m_is_ring G_RINGS c2
  have c4 := ok_nfits (P := l.prog) (w := w) (base := base) B F_number_fits m_number_fits G_POINTERS c1 c2
  have c5 := ok_rowFits (P := l.prog) (w := w) (base := base) B F_row_fits m_row_fits G_ROW_FORMS c4
  have c6 := ok_wordFits (P := l.prog) (w := w) (base := base) B F_word_fits m_word_fits c1 c2 c3
  have c7 := ok_brFits (P := l.prog) (w := w) (base := base) B F_brackets_fit m_brackets_fit c3
  have c8 := ok_sgFits (P := l.prog) (w := w) (base := base) B F_segment_fits m_segment_fits G_RIGHTS G_MOST_WORDS G_MOST_ROWS c2 c7 c6 c5
  have ci := ok_init (P := l.prog) (w := w) (base := base) B T F_init G_MOST_SEGMENTS G_LEAST_BASE c1 c8
  have Fc : FltC l.prog w K mg base CF := ⟨ox_F, wh_F, PySem.W.mg_of X G e_F, xf_F, _, _, a51, t_F, b_F, ok_Finit (P := l.prog) (w := w) (base := base) F_F (PySem.W.mg_none_of X G gEx0) vEx⟩
  have ms := ok_segAt (P := l.prog) (w := w) (base := base) B T ⟨a48, i48, k48⟩ F_Machine_segment c2
  have ml := ok_len (P := l.prog) (w := w) (base := base) B T ⟨a49, i49, k49⟩ F_Machine__len
  have y0 := ok_may_read (P := l.prog) (w := w) (base := base) B F_may_read m_may_read
  have y1 := ok_may_write (P := l.prog) (w := w) (base := base) B F_may_write m_may_write
  have rp := ok_pointer (P := l.prog) (w := w) (base := base) TR Fc ⟨a53, i53, k53⟩ F_Run_pointer
  have rs := ok_spot (P := l.prog) (w := w) (base := base) B TR Fc ⟨a54, i54, k54⟩ F_Run_spot rp
  have rr := ok_read (P := l.prog) (w := w) (base := base) B T TR Fc ⟨a55, i55, k55⟩ F_Run_read rs ms y0
  have rw_ := ok_write (P := l.prog) (w := w) (base := base) B T TR Fc ⟨a56, i56, k56⟩ F_Run_write rs ms y1
  have rn := ok_next (P := l.prog) (w := w) (base := base) B T TR Fc ⟨a59, i59, k59⟩ F_Run_next_row ms
  have rh := ok_hand (P := l.prog) (w := w) (base := base) TR Fc ⟨a60, i60, k60⟩ F_Run_not_the_hand
  have rj := ok_jump (P := l.prog) (w := w) (base := base) TR ⟨a57, i57, k57⟩ F_Run_jump
  have ra := ok_raised (P := l.prog) (w := w) (base := base) B F_raised m_raised
  have re := ok_entered (P := l.prog) (w := w) (base := base) B Fc F_entered m_entered
  have rt := ok_enter (P := l.prog) (w := w) (base := base) TR ⟨a58, i58, k58⟩ F_Run_enter ra
  have o0 := ok_set (P := l.prog) (w := w) (base := base) (CF := CF) T TR F_do_set
  have o1 := ok_add (P := l.prog) (w := w) (base := base) (CF := CF) T TR F_do_add
  have o2 := ok_load (P := l.prog) (w := w) (base := base) TR Fc F_do_load rr
  have o3 := ok_store (P := l.prog) (w := w) (base := base) TR F_do_store rw_
  have o4 := ok_fetch (P := l.prog) (w := w) (base := base) B T TR Fc F_do_fetch rr ms
  have o5 := ok_keep (P := l.prog) (w := w) (base := base) TR F_do_keep rp rw_
  have o6 := ok_aim (C := C) (P := l.prog) (w := w) (base := base) B TR Fc F_do_aim
  have o7 := ok_move (C := C) (P := l.prog) (w := w) (base := base) B TR Fc F_do_move rp
  have o8 := ok_zero (C := C) (P := l.prog) (w := w) (base := base) TR F_do_zero rh rj
  have o9 := ok_go (C := C) (P := l.prog) (w := w) (base := base) TR F_do_go rh rj
  have o10 := ok_call (P := l.prog) (w := w) (base := base) B T TR Fc G_DEEPEST F_do_call rp ms re rt
  have o11 := ok_return (C := C) (P := l.prog) (w := w) (base := base) TR F_do_return rh rt
  have HA : ∀ f sp, GDo C CR CF actOps (afOf f13 f14 f15 f16 f17 f18 f19 f20 f21 f22 f23 f24) f sp → HeldX l.prog w K mg base 6 f sp := by
    rintro f sp ⟨op, ho, rfl, rfl⟩
    unfold actOps at ho
    simp only [List.mem_cons, List.not_mem_nil, or_false] at ho
    rcases ho with rfl | rfl | rfl | rfl | rfl | rfl | rfl | rfl | rfl | rfl | rfl | rfl
    · rw [af_0, fn_set, ko_set]; exact ⟨_, _, o0, F_do_set.kp, F_do_set.binds (ps := ["run", "n"]) fun _ _ _ _ _ _ us hl => match us, hl with | [_, _], _ => rfl⟩
    · rw [af_1, fn_add, ko_add]; exact ⟨_, _, o1, F_do_add.kp, F_do_add.binds (ps := ["run", "n"]) fun _ _ _ _ _ _ us hl => match us, hl with | [_, _], _ => rfl⟩
    · rw [af_2, fn_load, ko_load]; exact ⟨_, _, o2, F_do_load.kp, F_do_load.binds (ps := ["run", "p", "w"]) fun _ _ _ _ _ _ us hl => match us, hl with | [_, _, _], _ => rfl⟩
    · rw [af_3, fn_store, ko_store]; exact ⟨_, _, o3, F_do_store.kp, F_do_store.binds (ps := ["run", "p", "w"]) fun _ _ _ _ _ _ us hl => match us, hl with | [_, _, _], _ => rfl⟩
    · rw [af_4, fn_fetch, ko_fetch]; exact ⟨_, _, o4, F_do_fetch.kp, F_do_fetch.binds (ps := ["run", "q", "p", "w"]) fun _ _ _ _ _ _ us hl => match us, hl with | [_, _, _, _], _ => rfl⟩
    · rw [af_5, fn_keep, ko_keep]; exact ⟨_, _, o5, F_do_keep.kp, F_do_keep.binds (ps := ["run", "q", "p", "w"]) fun _ _ _ _ _ _ us hl => match us, hl with | [_, _, _, _], _ => rfl⟩
    · rw [af_6, fn_aim, ko_aim]; exact ⟨_, _, o6, F_do_aim.kp, F_do_aim.binds (ps := ["run", "q", "s", "w"]) fun _ _ _ _ _ _ us hl => match us, hl with | [_, _, _, _], _ => rfl⟩
    · rw [af_7, fn_move, ko_move]; exact ⟨_, _, o7, F_do_move.kp, F_do_move.binds (ps := ["run", "q", "p", "n"]) fun _ _ _ _ _ _ us hl => match us, hl with | [_, _, _, _], _ => rfl⟩
    · rw [af_8, fn_zero, ko_zero]; exact ⟨_, _, o8, F_do_zero.kp, F_do_zero.binds (ps := ["run", "j"]) fun _ _ _ _ _ _ us hl => match us, hl with | [_, _], _ => rfl⟩
    · rw [af_9, fn_go, ko_go]; exact ⟨_, _, o9, F_do_go.kp, F_do_go.binds (ps := ["run", "j"]) fun _ _ _ _ _ _ us hl => match us, hl with | [_, _], _ => rfl⟩
    · rw [af_10, fn_call, ko_call]; exact ⟨_, _, o10, F_do_call.kp, F_do_call.binds (ps := ["run", "p"]) fun _ _ _ _ _ _ us hl => match us, hl with | [_, _], _ => rfl⟩
    · rw [af_11, fn_return, ko_return]; exact ⟨_, _, o11, F_do_return.kp, F_do_return.binds (ps := ["run"]) fun _ _ _ _ _ _ us hl => match us, hl with | [_], _ => rfl⟩
  have ac := ok_act (P := l.prog) (w := w) (base := base) F_act m_act GA (fun z hz => hz) HA
  have ao := ok_on (P := l.prog) (w := w) (base := base) B F_act_on m_act_on TR Fc rn ac
  have bfo := F_Run_forget.binds (ps := ["self"]) fun _ _ _ _ _ _ us hl => match us, hl with | [_], _ => rfl
  have dd := ok_deed (P := l.prog) (w := w) (base := base) F_do_deed m_do_deed TR Fc em_F ac ao ⟨a61, i61, k61⟩ bfo (hot_forget (P := l.prog) (w := w) (base := base) TR F_Run_forget G_POINTERS)
  have st := ok_stand (P := l.prog) (w := w) (base := base) B TR ⟨a62, i62, k62⟩ F_Run_stand_now
  have rf := ok_refuse (P := l.prog) (w := w) (base := base) B T F_refuse_faulty m_refuse_faulty ml c5
  have dn := ok_done (P := l.prog) (w := w) (base := base) B TR F_done rf ⟨mkR, a52, i52, kcR⟩ (ok_rinit (P := l.prog) (w := w) (base := base) B TR F_Run__init) bRI dd st
  have re := ok_REinit (P := l.prog) (w := w) (base := base) F_RE gVE vVE
  have X_TooMany : Exk l.prog w K mg base "TooMany" E_TooMany := ⟨ox_TooMany, wh_TooMany, PySem.W.mg_of X G e_TooMany, xf_TooMany, _, _, a98, t_TooMany, b_TooMany, ok_TooMany_init (P := l.prog) (w := w) (base := base) U_RE re bRE F_TooMany⟩
  have fi := ok_finit (P := l.prog) (w := w) (base := base) B TI F_Finds__init
  have fm := ok_more (P := l.prog) (w := w) (base := base) B TI ⟨a94, i94, k94⟩ F_Finds_more
  have fk := ok_take (P := l.prog) (w := w) (base := base) B TI ⟨a95, i95, k95⟩ F_Finds_take
  have fp := ok_put (P := l.prog) (w := w) (base := base) B TI X_TooMany ⟨a96, i96, k96⟩ F_Finds_put
  have d1 := ok_bag (P := l.prog) (w := w) (base := base) B F_law_bag m_law_bag
  have d2 := ok_drawB (P := l.prog) (w := w) (base := base) F_law_draw m_law_draw
  have whF := ok_wishF (P := l.prog) (w := w) (base := base) F_wish_holds m_wish_holds
  have wh := ok_wishH (P := l.prog) (w := w) (base := base) B F_wish_holds m_wish_holds
  have rw2 := ok_refWish (P := l.prog) (w := w) (base := base) B T F_refuse_wish m_refuse_wish ml ms c2
  have sr0 := ok_search (P := l.prog) (w := w) (base := base) B TI F_search m_search ⟨mkI, a93, i93, kcI⟩ fi bFI fm fk fp m_done k63 b_done v_done dn whF
  have sr := ok_searchW (P := l.prog) (w := w) (base := base) B TI F_search m_search ⟨mkI, a93, i93, kcI⟩ fi bFI fm fk fp m_done k63 b_done v_done dn wh
  have bS := F_seen.binds (ps := ["machine", "stand"]) fun _ _ _ _ _ _ us hl => match us, hl with | [_, _], _ => rfl
  have fs := ok_seen (P := l.prog) (w := w) (base := base) B T F_seen m_seen y0
  have fr := ok_frame (P := l.prog) (w := w) (base := base) B T F_frame m_frame
  have rp2 := ok_refPair (P := l.prog) (w := w) (base := base) B F_refuse_pair m_refuse_pair fr rf
  have sa := ok_seeAlike (P := l.prog) (w := w) (base := base) B F_seen_alike m_seen_alike m_seen k30 bS fs
  have bh := ok_behind (P := l.prog) (w := w) (base := base) B F_pair_behind m_pair_behind sa m_done k63 b_done v_done dn
  have sp := ok_searchP (P := l.prog) (w := w) (base := base) B TI F_search_pairs m_search_pairs ⟨mkI, a93, i93, kcI⟩ fi bFI fm fk fp sa bh
  have Fst := ok_stands (P := l.prog) (w := w) (base := base) B F_stands rf sr0
  have Fwy := ok_way (P := l.prog) (w := w) (base := base) B F_way rf rw2 sr
  have Fpa := ok_paper (P := l.prog) (w := w) (base := base) B F_paper rf rw2 sr
  have Fpt := ok_parting (P := l.prog) (w := w) (base := base) B F_parting rp2 sp
  have Fal := ok_alike (P := l.prog) (w := w) (base := base) B F_alike rp2 sp
  have ph := ok_paperHolds (P := l.prog) (w := w) (base := base) B F_paper_holds m_paper_holds rf rw2 wh m_done k63 b_done v_done dn
  have ah := ok_alikeHoldsW (P := l.prog) (w := w) (base := base) B F_alike_holds m_alike_holds rp2 sa bh
  have f0 := ok_first0 (P := l.prog) (w := w) (base := base) B T F_first m_first c3 G_POINTERS
  have lf := ok_law_free (P := l.prog) (w := w) (base := base) B F_law_free m_law_free m_stands k88 Fst b_stands v_stands m_way k89 Fwy b_way v_way m_paper k90 Fpa b_paper v_paper m_parting k91 Fpt b_parting v_parting m_alike k92 Fal b_alike v_alike
  have lb := ok_law_bound (P := l.prog) (w := w) (base := base) B F_law_bound m_law_bound m_stands k88 Fst kbst m_way k89 Fwy kbwy m_paper k90 Fpa kbpa m_parting k91 Fpt kbpt m_alike k92 Fal kbal
  have lt := ok_told68 (P := l.prog) (w := w) (base := base) B F_law_told m_law_told X_TooMany em_TooMany lf lb
  have lh := ok_held (P := l.prog) (w := w) (base := base) B F_law_held m_law_held m_paper k90 Fpa kbpa m_alike k92 Fal kbal d2 ph ah
  exact ok_law B T F_law ⟨mk, a50, i50, kc⟩ ci kb1 G_LIMIT m_way k89 Fwy kbwy d1 d2 f0 lt lh
open PySem PySem.Spec L2
set_option maxHeartbeats 0 in
theorem hfacts {l : PySem.W.OpenLaw} {w : World} {K : PySem.W.Frag} {h : Heap} {mg : Str → Option Value} {fa : Addr} (X : K.In h) (G : h.Ns mainGlobals mg) (hfa : mg "law" = some (.ref fa)) (c : ∀ ck ∈ hcks, ck.ok w K) :
    ∃ fd : FuncData, (∀ (s : Shared) (v : Value), BindsTo s fd ⟨[v], []⟩ [("script", v)]) ∧ ∀ base : Heap, K.In base → base.Ns mainGlobals mg → FnOk l.prog w K mg base CX0 16 fa fd ["script"] (spLaw K) := by
  have cc0 : obsR hex_0 hck_0.fn hck_0.ts K = valR hck_0.fn hck_0.ts w := c hck_0 (List.mem_of_getElem? (i := 0) rfl)
  have hx := hr_ex cc0
  unfold hex_0 at hx
  obtain ⟨y0, hx⟩ := He.ba hx
  have x0 := List.all_eq_true.mp y0
  clear y0
  have x1 := List.all_eq_true.mp hx
  clear hx
  have cc1 : obsR hex_1 hck_1.fn hck_1.ts K = valR hck_1.fn hck_1.ts w := c hck_1 (List.mem_of_getElem? (i := 1) rfl)
  have hx := hr_ex cc1
  unfold hex_1 at hx
  obtain ⟨y2, hx⟩ := He.ba hx
  have x2 := List.all_eq_true.mp y2
  clear y2
  have x3 := List.all_eq_true.mp hx
  clear hx
  have cc2 : obsR hex_2 hck_2.fn hck_2.ts K = valR hck_2.fn hck_2.ts w := c hck_2 (List.mem_of_getElem? (i := 2) rfl)
  have hx := hr_ex cc2
  unfold hex_2 at hx
  obtain ⟨y4, hx⟩ := He.ba hx
  have x4 := List.all_eq_true.mp y4
  clear y4
  have x5 := List.all_eq_true.mp hx
  clear hx
  have cc3 : obsR hex_3 hck_3.fn hck_3.ts K = valR hck_3.fn hck_3.ts w := c hck_3 (List.mem_of_getElem? (i := 3) rfl)
  have hx := hr_ex cc3
  unfold hex_3 at hx
  obtain ⟨y6, hx⟩ := He.ba hx
  have x6 := List.all_eq_true.mp y6
  clear y6
  have x7 := List.all_eq_true.mp hx
  clear hx
  obtain ⟨z1, v1⟩ := hr_def2 cc0 0 (d := hd_is_whole) rfl rfl
  obtain ⟨z2, v2⟩ := hr_def2 cc0 1 (d := hd_is_below) rfl rfl
  obtain ⟨z3, v3⟩ := hr_def2 cc0 2 (d := hd_is_ring) rfl rfl
  obtain ⟨z4, v4⟩ := hr_def2 cc0 3 (d := hd_number_fits) rfl rfl
  obtain ⟨z5, v5⟩ := hr_def2 cc0 4 (d := hd_row_fits) rfl rfl
  obtain ⟨z6, v6⟩ := hr_def2 cc0 5 (d := hd_word_fits) rfl rfl
  obtain ⟨z7, v7⟩ := hr_def2 cc0 6 (d := hd_brackets_fit) rfl rfl
  obtain ⟨z8, v8⟩ := hr_def2 cc0 7 (d := hd_segment_fits) rfl rfl
  obtain ⟨z9, v9⟩ := hr_def2 cc0 8 (d := hd_may_read) rfl rfl
  obtain ⟨z10, v10⟩ := hr_def2 cc0 9 (d := hd_may_write) rfl rfl
  obtain ⟨z11, v11⟩ := hr_def2 cc0 10 (d := hd_raised) rfl rfl
  obtain ⟨z12, v12⟩ := hr_def2 cc0 11 (d := hd_entered) rfl rfl
  obtain ⟨z13, v13⟩ := hr_def2 cc0 12 (d := hd_do_set) rfl rfl
  obtain ⟨z14, v14⟩ := hr_def2 cc0 13 (d := hd_do_add) rfl rfl
  obtain ⟨z15, v15⟩ := hr_def2 cc0 14 (d := hd_do_load) rfl rfl
  obtain ⟨z16, v16⟩ := hr_def2 cc0 15 (d := hd_do_store) rfl rfl
  obtain ⟨z17, v17⟩ := hr_def2 cc0 16 (d := hd_do_fetch) rfl rfl
  obtain ⟨z18, v18⟩ := hr_def2 cc0 17 (d := hd_do_keep) rfl rfl
  obtain ⟨z19, v19⟩ := hr_def2 cc0 18 (d := hd_do_aim) rfl rfl
  obtain ⟨z20, v20⟩ := hr_def2 cc1 0 (d := hd_do_move) rfl rfl
  obtain ⟨z21, v21⟩ := hr_def2 cc1 1 (d := hd_do_zero) rfl rfl
  obtain ⟨z22, v22⟩ := hr_def2 cc1 2 (d := hd_do_go) rfl rfl
  obtain ⟨z23, v23⟩ := hr_def2 cc1 3 (d := hd_do_call) rfl rfl
  obtain ⟨z24, v24⟩ := hr_def2 cc1 4 (d := hd_do_return) rfl rfl
  obtain ⟨z25, v25⟩ := hr_def2 cc1 5 (d := hd_act) rfl rfl
  obtain ⟨z26, v26⟩ := hr_def2 cc1 6 (d := hd_act_on) rfl rfl
  obtain ⟨z27, v27⟩ := hr_def2 cc1 7 (d := hd_do_deed) rfl rfl
  obtain ⟨z28, v28⟩ := hr_def2 cc1 8 (d := hd_refuse_faulty) rfl rfl
  obtain ⟨z29, v29⟩ := hr_def2 cc1 9 (d := hd_first) rfl rfl
  obtain ⟨z30, v30⟩ := hr_def2 cc1 10 (d := hd_seen) rfl rfl
  obtain ⟨z31, v31⟩ := hr_def2 cc1 11 (d := hd_frame) rfl rfl
  obtain ⟨z32, v32⟩ := hr_def2 cc1 12 (d := hd_refuse_pair) rfl rfl
  obtain ⟨z33, v33⟩ := hr_def2 cc1 13 (d := hd_seen_alike) rfl rfl
  obtain ⟨z34, v34⟩ := hr_def2 cc1 14 (d := hd_pair_behind) rfl rfl
  obtain ⟨z35, v35⟩ := hr_def2 cc1 15 (d := hd_search_pairs) rfl rfl
  obtain ⟨z36, v36⟩ := hr_def2 cc1 16 (d := hd_wish_holds) rfl rfl
  obtain ⟨z37, v37⟩ := hr_def2 cc1 17 (d := hd_refuse_wish) rfl rfl
  obtain ⟨z38, v38⟩ := hr_def2 cc1 18 (d := hd_paper_holds) rfl rfl
  obtain ⟨z39, v39⟩ := hr_def2 cc2 0 (d := hd_search) rfl rfl
  obtain ⟨z40, v40⟩ := hr_def2 cc2 1 (d := hd_alike_holds) rfl rfl
  obtain ⟨z41, v41⟩ := hr_def2 cc2 2 (d := hd_law_bag) rfl rfl
  obtain ⟨z42, v42⟩ := hr_def2 cc2 3 (d := hd_law_draw) rfl rfl
  obtain ⟨z43, v43⟩ := hr_def2 cc2 4 (d := hd_law_free) rfl rfl
  obtain ⟨z44, v44⟩ := hr_def2 cc2 5 (d := hd_law_bound) rfl rfl
  obtain ⟨z45, v45⟩ := hr_def2 cc2 6 (d := hd_law_held) rfl rfl
  obtain ⟨z46, v46⟩ := hr_def2 cc2 7 (d := hd_law_told) rfl rfl
  obtain ⟨z47, v47⟩ := hr_def2 cc2 8 (d := hd_law) rfl rfl
  obtain ⟨z48, v48⟩ := hr_def2 cc2 9 (d := hd_Machine_segment) rfl rfl
  obtain ⟨z49, v49⟩ := hr_def2 cc2 10 (d := hd_Machine__len) rfl rfl
  obtain ⟨_, _, kv50, _, _, _, _, _, _, l50, c50, k50, w50⟩ := hr_def cc2 11 (d := hd_Machine__init) rfl rfl
  obtain ⟨_, _, e50, d50⟩ := kw_int w50
  subst e50
  obtain ⟨_, _, _, _, _, _, _, _, _, _, _, _, _, _, x_F⟩ := excF_ok (x2 _ (List.mem_of_getElem? (i := 3) rfl))
  obtain ⟨z51, v51⟩ := hr_def2 cc2 12 (d := hd_Fault__init) rfl rfl
  obtain ⟨z52, v52⟩ := hr_def2 cc2 13 (d := hd_Run__init) rfl rfl
  obtain ⟨z53, v53⟩ := hr_def2 cc2 14 (d := hd_Run_pointer) rfl rfl
  obtain ⟨z54, v54⟩ := hr_def2 cc2 15 (d := hd_Run_spot) rfl rfl
  obtain ⟨z55, v55⟩ := hr_def2 cc2 16 (d := hd_Run_read) rfl rfl
  obtain ⟨z56, v56⟩ := hr_def2 cc2 17 (d := hd_Run_write) rfl rfl
  obtain ⟨z57, v57⟩ := hr_def2 cc2 18 (d := hd_Run_jump) rfl rfl
  obtain ⟨z58, v58⟩ := hr_def2 cc3 0 (d := hd_Run_enter) rfl rfl
  obtain ⟨z59, v59⟩ := hr_def2 cc3 1 (d := hd_Run_next_row) rfl rfl
  obtain ⟨z60, v60⟩ := hr_def2 cc3 2 (d := hd_Run_not_the_hand) rfl rfl
  obtain ⟨z61, v61⟩ := hr_def2 cc3 3 (d := hd_Run_forget) rfl rfl
  obtain ⟨z62, v62⟩ := hr_def2 cc3 4 (d := hd_Run_stand_now) rfl rfl
  obtain ⟨_, _, kv63, _, _, _, _, _, _, l63, c63, k63, w63⟩ := hr_def cc3 5 (d := hd_done) rfl rfl
  obtain ⟨_, _, e63, d63⟩ := kw_int w63
  subst e63
  obtain ⟨_, _, ⟨lAC, kAC, sAC⟩⟩ := hr_tab cc0 0 rfl
  obtain ⟨_, g64⟩ := intF_ok (x4 _ (List.mem_of_getElem? (i := 10) rfl))
  obtain ⟨_, g65⟩ := intF_ok (x4 _ (List.mem_of_getElem? (i := 11) rfl))
  obtain ⟨_, g66⟩ := intF_ok (x4 _ (List.mem_of_getElem? (i := 12) rfl))
  obtain ⟨_, g67⟩ := intF_ok (x4 _ (List.mem_of_getElem? (i := 13) rfl))
  obtain ⟨_, g68⟩ := intF_ok (x4 _ (List.mem_of_getElem? (i := 14) rfl))
  obtain ⟨_, g69⟩ := intF_ok (x4 _ (List.mem_of_getElem? (i := 15) rfl))
  obtain ⟨_, g70⟩ := intF_ok (x4 _ (List.mem_of_getElem? (i := 16) rfl))
  obtain ⟨_, _, ⟨lR, kR, sR⟩⟩ := hr_tab cc0 1 rfl
  obtain ⟨_, r0⟩ := strF_ok (x5 _ (List.mem_of_getElem? (i := 5) rfl))
  obtain ⟨_, r1⟩ := strF_ok (x5 _ (List.mem_of_getElem? (i := 6) rfl))
  obtain ⟨_, r2⟩ := strF_ok (x5 _ (List.mem_of_getElem? (i := 7) rfl))
  obtain ⟨_, r3⟩ := strF_ok (x5 _ (List.mem_of_getElem? (i := 8) rfl))
  obtain ⟨_, r4⟩ := strF_ok (x5 _ (List.mem_of_getElem? (i := 9) rfl))
  obtain ⟨_, r5⟩ := strF_ok (x5 _ (List.mem_of_getElem? (i := 10) rfl))
  obtain ⟨_, r6⟩ := strF_ok (x5 _ (List.mem_of_getElem? (i := 11) rfl))
  obtain ⟨_, r7⟩ := strF_ok (x5 _ (List.mem_of_getElem? (i := 12) rfl))
  obtain ⟨_, r8⟩ := strF_ok (x5 _ (List.mem_of_getElem? (i := 13) rfl))
  obtain ⟨_, r9⟩ := strF_ok (x5 _ (List.mem_of_getElem? (i := 14) rfl))
  obtain ⟨_, r10⟩ := strF_ok (x5 _ (List.mem_of_getElem? (i := 15) rfl))
  obtain ⟨_, r11⟩ := strF_ok (x5 _ (List.mem_of_getElem? (i := 16) rfl))
  obtain ⟨_, _, _, _, _, _, _, _, _, _, _, lT⟩ := tupF_ok (x5 _ (List.mem_of_getElem? (i := 18) rfl))
  obtain ⟨_, _, kv88, _, _, _, _, _, _, l88, c88, k88, w88⟩ := hr_def cc3 6 (d := hd_stands) rfl rfl
  obtain ⟨_, _, e88, d88⟩ := kw_int w88
  subst e88
  obtain ⟨_, _, kv89, _, _, _, _, _, _, l89, c89, k89, w89⟩ := hr_def cc3 7 (d := hd_way) rfl rfl
  obtain ⟨_, _, e89, d89⟩ := kw_int w89
  subst e89
  obtain ⟨_, _, kv90, _, _, _, _, _, _, l90, c90, k90, w90⟩ := hr_def cc3 8 (d := hd_paper) rfl rfl
  obtain ⟨_, _, e90, d90⟩ := kw_int w90
  subst e90
  obtain ⟨_, _, kv91, _, _, _, _, _, _, l91, c91, k91, w91⟩ := hr_def cc3 9 (d := hd_parting) rfl rfl
  obtain ⟨_, _, e91, d91⟩ := kw_int w91
  subst e91
  obtain ⟨_, _, kv92, _, _, _, _, _, _, l92, c92, k92, w92⟩ := hr_def cc3 10 (d := hd_alike) rfl rfl
  obtain ⟨_, _, e92, d92⟩ := kw_int w92
  subst e92
  obtain ⟨z93, v93⟩ := hr_def2 cc3 11 (d := hd_Finds__init) rfl rfl
  obtain ⟨z94, v94⟩ := hr_def2 cc3 12 (d := hd_Finds_more) rfl rfl
  obtain ⟨z95, v95⟩ := hr_def2 cc3 13 (d := hd_Finds_take) rfl rfl
  obtain ⟨z96, v96⟩ := hr_def2 cc3 14 (d := hd_Finds_put) rfl rfl
  obtain ⟨z97, v97⟩ := hr_def2 cc3 15 (d := hd_RingError__init) rfl rfl
  obtain ⟨_, _, _, _, _, _, _, _, _, _, _, _, _, _, x_TooMany⟩ := excF_ok (x6 _ (List.mem_of_getElem? (i := 24) rfl))
  obtain ⟨z98, v98⟩ := hr_def2 cc3 16 (d := hd_TooMany__init) rfl rfl
  obtain ⟨_, g99⟩ := intF_ok (x7 _ (List.mem_of_getElem? (i := 10) rfl))
  exact all_mk X G hfa (of_decide_eq_true (x0 _ (List.mem_of_getElem? (i := 0) rfl))) (v1.1) (v1.2.1) (v1.2.2) (of_decide_eq_true (x0 _ (List.mem_of_getElem? (i := 1) rfl))) (v2.1) (v2.2.1) (v2.2.2) (of_decide_eq_true (x0 _ (List.mem_of_getElem? (i := 2) rfl))) (v3.1) (v3.2.1) (v3.2.2) (of_decide_eq_true (x0 _ (List.mem_of_getElem? (i := 3) rfl))) (v4.1) (v4.2.1) (v4.2.2) (of_decide_eq_true (x0 _ (List.mem_of_getElem? (i := 4) rfl))) (v5.1) (v5.2.1) (v5.2.2) (of_decide_eq_true (x0 _ (List.mem_of_getElem? (i := 5) rfl))) (v6.1) (v6.2.1) (v6.2.2) (of_decide_eq_true (x0 _ (List.mem_of_getElem? (i := 6) rfl))) (v7.1) (v7.2.1) (v7.2.2) (of_decide_eq_true (x0 _ (List.mem_of_getElem? (i := 7) rfl))) (v8.1) (v8.2.1) (v8.2.2) (of_decide_eq_true (x0 _ (List.mem_of_getElem? (i := 8) rfl))) (v9.1) (v9.2.1) (v9.2.2) (of_decide_eq_true (x0 _ (List.mem_of_getElem? (i := 9) rfl))) (v10.1) (v10.2.1) (v10.2.2) (of_decide_eq_true (x0 _ (List.mem_of_getElem? (i := 10) rfl))) (v11.1) (v11.2.1) (v11.2.2) (of_decide_eq_true (x0 _ (List.mem_of_getElem? (i := 11) rfl))) (v12.1) (v12.2.1) (v12.2.2) (of_decide_eq_true (x0 _ (List.mem_of_getElem? (i := 12) rfl))) (v13.1) (v13.2.1) (v13.2.2) (of_decide_eq_true (x0 _ (List.mem_of_getElem? (i := 13) rfl))) (v14.1) (v14.2.1) (v14.2.2) (of_decide_eq_true (x0 _ (List.mem_of_getElem? (i := 14) rfl))) (v15.1) (v15.2.1) (v15.2.2) (of_decide_eq_true (x0 _ (List.mem_of_getElem? (i := 15) rfl))) (v16.1) (v16.2.1) (v16.2.2) (of_decide_eq_true (x0 _ (List.mem_of_getElem? (i := 16) rfl))) (v17.1) (v17.2.1) (v17.2.2) (of_decide_eq_true (x0 _ (List.mem_of_getElem? (i := 17) rfl))) (v18.1) (v18.2.1) (v18.2.2) (of_decide_eq_true (x0 _ (List.mem_of_getElem? (i := 18) rfl))) (v19.1) (v19.2.1) (v19.2.2) (of_decide_eq_true (x0 _ (List.mem_of_getElem? (i := 19) rfl))) (v20.1) (v20.2.1) (v20.2.2) (of_decide_eq_true (x0 _ (List.mem_of_getElem? (i := 20) rfl))) (v21.1) (v21.2.1) (v21.2.2) (of_decide_eq_true (x0 _ (List.mem_of_getElem? (i := 21) rfl))) (v22.1) (v22.2.1) (v22.2.2) (of_decide_eq_true (x0 _ (List.mem_of_getElem? (i := 22) rfl))) (v23.1) (v23.2.1) (v23.2.2) (of_decide_eq_true (x0 _ (List.mem_of_getElem? (i := 23) rfl))) (v24.1) (v24.2.1) (v24.2.2) (of_decide_eq_true (x0 _ (List.mem_of_getElem? (i := 24) rfl))) (v25.1) (v25.2.1) (v25.2.2) (of_decide_eq_true (x0 _ (List.mem_of_getElem? (i := 25) rfl))) (v26.1) (v26.2.1) (v26.2.2) (of_decide_eq_true (x0 _ (List.mem_of_getElem? (i := 26) rfl))) (v27.1) (v27.2.1) (v27.2.2) (of_decide_eq_true (x0 _ (List.mem_of_getElem? (i := 27) rfl))) (v28.1) (v28.2.1) (v28.2.2) (of_decide_eq_true (x0 _ (List.mem_of_getElem? (i := 28) rfl))) (v29.1) (v29.2.1) (v29.2.2) (of_decide_eq_true (x0 _ (List.mem_of_getElem? (i := 29) rfl))) (v30.1) (v30.2.1) (v30.2.2) (of_decide_eq_true (x1 _ (List.mem_of_getElem? (i := 0) rfl))) (v31.1) (v31.2.1) (v31.2.2) (of_decide_eq_true (x1 _ (List.mem_of_getElem? (i := 1) rfl))) (v32.1) (v32.2.1) (v32.2.2) (of_decide_eq_true (x1 _ (List.mem_of_getElem? (i := 2) rfl))) (v33.1) (v33.2.1) (v33.2.2) (of_decide_eq_true (x1 _ (List.mem_of_getElem? (i := 3) rfl))) (v34.1) (v34.2.1) (v34.2.2) (of_decide_eq_true (x1 _ (List.mem_of_getElem? (i := 4) rfl))) (v35.1) (v35.2.1) (v35.2.2) (of_decide_eq_true (x1 _ (List.mem_of_getElem? (i := 5) rfl))) (v36.1) (v36.2.1) (v36.2.2) (of_decide_eq_true (x1 _ (List.mem_of_getElem? (i := 6) rfl))) (v37.1) (v37.2.1) (v37.2.2) (of_decide_eq_true (x1 _ (List.mem_of_getElem? (i := 7) rfl))) (v38.1) (v38.2.1) (v38.2.2) (of_decide_eq_true (x1 _ (List.mem_of_getElem? (i := 8) rfl))) (v39.1) (v39.2.1) (v39.2.2) (of_decide_eq_true (x1 _ (List.mem_of_getElem? (i := 9) rfl))) (v40.1) (v40.2.1) (v40.2.2) (of_decide_eq_true (x1 _ (List.mem_of_getElem? (i := 10) rfl))) (v41.1) (v41.2.1) (v41.2.2) (of_decide_eq_true (x1 _ (List.mem_of_getElem? (i := 11) rfl))) (v42.1) (v42.2.1) (v42.2.2) (of_decide_eq_true (x1 _ (List.mem_of_getElem? (i := 12) rfl))) (v43.1) (v43.2.1) (v43.2.2) (of_decide_eq_true (x1 _ (List.mem_of_getElem? (i := 13) rfl))) (v44.1) (v44.2.1) (v44.2.2) (of_decide_eq_true (x1 _ (List.mem_of_getElem? (i := 14) rfl))) (v45.1) (v45.2.1) (v45.2.2) (of_decide_eq_true (x1 _ (List.mem_of_getElem? (i := 15) rfl))) (v46.1) (v46.2.1) (v46.2.2) (of_decide_eq_true (x1 _ (List.mem_of_getElem? (i := 16) rfl))) (v47.1) (v47.2.1) (v47.2.2) (of_decide_eq_true (x1 _ (List.mem_of_getElem? (i := 17) rfl))) ((x1 _ (List.mem_of_getElem? (i := 18) rfl))) ((x1 _ (List.mem_of_getElem? (i := 19) rfl))) ((x1 _ (List.mem_of_getElem? (i := 20) rfl))) (of_decide_eq_true (x1 _ (List.mem_of_getElem? (i := 21) rfl))) ((x1 _ (List.mem_of_getElem? (i := 22) rfl))) ((x1 _ (List.mem_of_getElem? (i := 23) rfl))) (of_decide_eq_true (x1 _ (List.mem_of_getElem? (i := 24) rfl))) (of_decide_eq_true (x1 _ (List.mem_of_getElem? (i := 25) rfl))) (of_decide_eq_true (x1 _ (List.mem_of_getElem? (i := 26) rfl))) (v48.1) (v48.2.1) (v48.2.2) ((x1 _ (List.mem_of_getElem? (i := 27) rfl))) (of_decide_eq_true (x1 _ (List.mem_of_getElem? (i := 28) rfl))) (v49.1) (v49.2.1) (v49.2.2) ((x1 _ (List.mem_of_getElem? (i := 29) rfl))) (of_decide_eq_true (x2 _ (List.mem_of_getElem? (i := 0) rfl))) l50 c50 k50 d50 ((x2 _ (List.mem_of_getElem? (i := 1) rfl))) (of_decide_eq_true (x2 _ (List.mem_of_getElem? (i := 2) rfl))) x_F (of_decide_eq_true (x2 _ (List.mem_of_getElem? (i := 4) rfl))) (v51.1) (v51.2.1) (v51.2.2) (of_decide_eq_true (x2 _ (List.mem_of_getElem? (i := 5) rfl))) (of_decide_eq_true (x2 _ (List.mem_of_getElem? (i := 6) rfl))) (of_decide_eq_true (x2 _ (List.mem_of_getElem? (i := 7) rfl))) (of_decide_eq_true (x2 _ (List.mem_of_getElem? (i := 8) rfl))) ((x2 _ (List.mem_of_getElem? (i := 9) rfl))) (of_decide_eq_true (x2 _ (List.mem_of_getElem? (i := 10) rfl))) (of_decide_eq_true (x2 _ (List.mem_of_getElem? (i := 11) rfl))) (of_decide_eq_true (x2 _ (List.mem_of_getElem? (i := 12) rfl))) ((x2 _ (List.mem_of_getElem? (i := 13) rfl))) (of_decide_eq_true (x2 _ (List.mem_of_getElem? (i := 14) rfl))) (of_decide_eq_true (x2 _ (List.mem_of_getElem? (i := 15) rfl))) (clsF_ok (x2 _ (List.mem_of_getElem? (i := 16) rfl))) (of_decide_eq_true (x2 _ (List.mem_of_getElem? (i := 17) rfl))) ((x2 _ (List.mem_of_getElem? (i := 18) rfl))) ((x2 _ (List.mem_of_getElem? (i := 19) rfl))) ((x2 _ (List.mem_of_getElem? (i := 20) rfl))) (of_decide_eq_true (x2 _ (List.mem_of_getElem? (i := 21) rfl))) ((x2 _ (List.mem_of_getElem? (i := 22) rfl))) ((x2 _ (List.mem_of_getElem? (i := 23) rfl))) (of_decide_eq_true (x2 _ (List.mem_of_getElem? (i := 24) rfl))) (of_decide_eq_true (x2 _ (List.mem_of_getElem? (i := 25) rfl))) (of_decide_eq_true (x2 _ (List.mem_of_getElem? (i := 26) rfl))) (of_decide_eq_true (x2 _ (List.mem_of_getElem? (i := 27) rfl))) (of_decide_eq_true (x2 _ (List.mem_of_getElem? (i := 28) rfl))) (of_decide_eq_true (x2 _ (List.mem_of_getElem? (i := 29) rfl))) (of_decide_eq_true (x3 _ (List.mem_of_getElem? (i := 0) rfl))) (of_decide_eq_true (x3 _ (List.mem_of_getElem? (i := 1) rfl))) (of_decide_eq_true (x3 _ (List.mem_of_getElem? (i := 2) rfl))) (of_decide_eq_true (x3 _ (List.mem_of_getElem? (i := 3) rfl))) (of_decide_eq_true (x3 _ (List.mem_of_getElem? (i := 4) rfl))) (v52.1) (v52.2.1) (v52.2.2) ((x3 _ (List.mem_of_getElem? (i := 5) rfl))) (of_decide_eq_true (x3 _ (List.mem_of_getElem? (i := 6) rfl))) (v53.1) (v53.2.1) (v53.2.2) ((x3 _ (List.mem_of_getElem? (i := 7) rfl))) (of_decide_eq_true (x3 _ (List.mem_of_getElem? (i := 8) rfl))) (v54.1) (v54.2.1) (v54.2.2) ((x3 _ (List.mem_of_getElem? (i := 9) rfl))) (of_decide_eq_true (x3 _ (List.mem_of_getElem? (i := 10) rfl))) (v55.1) (v55.2.1) (v55.2.2) ((x3 _ (List.mem_of_getElem? (i := 11) rfl))) (of_decide_eq_true (x3 _ (List.mem_of_getElem? (i := 12) rfl))) (v56.1) (v56.2.1) (v56.2.2) ((x3 _ (List.mem_of_getElem? (i := 13) rfl))) (of_decide_eq_true (x3 _ (List.mem_of_getElem? (i := 14) rfl))) (v57.1) (v57.2.1) (v57.2.2) ((x3 _ (List.mem_of_getElem? (i := 15) rfl))) (of_decide_eq_true (x3 _ (List.mem_of_getElem? (i := 16) rfl))) (v58.1) (v58.2.1) (v58.2.2) ((x3 _ (List.mem_of_getElem? (i := 17) rfl))) (of_decide_eq_true (x3 _ (List.mem_of_getElem? (i := 18) rfl))) (v59.1) (v59.2.1) (v59.2.2) ((x3 _ (List.mem_of_getElem? (i := 19) rfl))) (of_decide_eq_true (x3 _ (List.mem_of_getElem? (i := 20) rfl))) (v60.1) (v60.2.1) (v60.2.2) ((x3 _ (List.mem_of_getElem? (i := 21) rfl))) (of_decide_eq_true (x3 _ (List.mem_of_getElem? (i := 22) rfl))) (v61.1) (v61.2.1) (v61.2.2) ((x3 _ (List.mem_of_getElem? (i := 23) rfl))) (of_decide_eq_true (x3 _ (List.mem_of_getElem? (i := 24) rfl))) (v62.1) (v62.2.1) (v62.2.2) ((x3 _ (List.mem_of_getElem? (i := 25) rfl))) (of_decide_eq_true (x3 _ (List.mem_of_getElem? (i := 26) rfl))) l63 c63 k63 d63 (of_decide_eq_true (x3 _ (List.mem_of_getElem? (i := 27) rfl))) lAC kAC (of_decide_eq_true (x3 _ (List.mem_of_getElem? (i := 28) rfl))) (of_decide_eq_true (x3 _ (List.mem_of_getElem? (i := 29) rfl))) (of_decide_eq_true (x4 _ (List.mem_of_getElem? (i := 0) rfl))) (of_decide_eq_true (x4 _ (List.mem_of_getElem? (i := 1) rfl))) (of_decide_eq_true (x4 _ (List.mem_of_getElem? (i := 2) rfl))) (of_decide_eq_true (x4 _ (List.mem_of_getElem? (i := 3) rfl))) (of_decide_eq_true (x4 _ (List.mem_of_getElem? (i := 4) rfl))) (of_decide_eq_true (x4 _ (List.mem_of_getElem? (i := 5) rfl))) (of_decide_eq_true (x4 _ (List.mem_of_getElem? (i := 6) rfl))) (of_decide_eq_true (x4 _ (List.mem_of_getElem? (i := 7) rfl))) (of_decide_eq_true (x4 _ (List.mem_of_getElem? (i := 8) rfl))) (of_decide_eq_true (x4 _ (List.mem_of_getElem? (i := 9) rfl))) g64 g65 g66 g67 g68 g69 g70 (of_decide_eq_true (x4 _ (List.mem_of_getElem? (i := 17) rfl))) (of_decide_eq_true (x4 _ (List.mem_of_getElem? (i := 18) rfl))) (of_decide_eq_true (x4 _ (List.mem_of_getElem? (i := 19) rfl))) (of_decide_eq_true (x4 _ (List.mem_of_getElem? (i := 20) rfl))) (of_decide_eq_true (x4 _ (List.mem_of_getElem? (i := 21) rfl))) (of_decide_eq_true (x4 _ (List.mem_of_getElem? (i := 22) rfl))) (of_decide_eq_true (x4 _ (List.mem_of_getElem? (i := 23) rfl))) (of_decide_eq_true (x4 _ (List.mem_of_getElem? (i := 24) rfl))) (of_decide_eq_true (x4 _ (List.mem_of_getElem? (i := 25) rfl))) (of_decide_eq_true (x4 _ (List.mem_of_getElem? (i := 26) rfl))) (of_decide_eq_true (x4 _ (List.mem_of_getElem? (i := 27) rfl))) (of_decide_eq_true (x4 _ (List.mem_of_getElem? (i := 28) rfl))) (of_decide_eq_true (x4 _ (List.mem_of_getElem? (i := 29) rfl))) (of_decide_eq_true (x5 _ (List.mem_of_getElem? (i := 0) rfl))) (of_decide_eq_true (x5 _ (List.mem_of_getElem? (i := 1) rfl))) (of_decide_eq_true (x5 _ (List.mem_of_getElem? (i := 2) rfl))) (of_decide_eq_true (x5 _ (List.mem_of_getElem? (i := 3) rfl))) (of_decide_eq_true (x5 _ (List.mem_of_getElem? (i := 4) rfl))) lR kR sR r0 r1 r2 r3 r4 r5 r6 r7 r8 r9 r10 r11 (of_decide_eq_true (x5 _ (List.mem_of_getElem? (i := 17) rfl))) lT (of_decide_eq_true (x5 _ (List.mem_of_getElem? (i := 19) rfl))) l88 c88 k88 d88 (of_decide_eq_true (x5 _ (List.mem_of_getElem? (i := 20) rfl))) l89 c89 k89 d89 (of_decide_eq_true (x5 _ (List.mem_of_getElem? (i := 21) rfl))) l90 c90 k90 d90 (of_decide_eq_true (x5 _ (List.mem_of_getElem? (i := 22) rfl))) l91 c91 k91 d91 (of_decide_eq_true (x5 _ (List.mem_of_getElem? (i := 23) rfl))) l92 c92 k92 d92 (of_decide_eq_true (x5 _ (List.mem_of_getElem? (i := 24) rfl))) ((x5 _ (List.mem_of_getElem? (i := 25) rfl))) ((x5 _ (List.mem_of_getElem? (i := 26) rfl))) ((x5 _ (List.mem_of_getElem? (i := 27) rfl))) (of_decide_eq_true (x5 _ (List.mem_of_getElem? (i := 28) rfl))) ((x5 _ (List.mem_of_getElem? (i := 29) rfl))) ((x6 _ (List.mem_of_getElem? (i := 0) rfl))) (of_decide_eq_true (x6 _ (List.mem_of_getElem? (i := 1) rfl))) (of_decide_eq_true (x6 _ (List.mem_of_getElem? (i := 2) rfl))) (of_decide_eq_true (x6 _ (List.mem_of_getElem? (i := 3) rfl))) (of_decide_eq_true (x6 _ (List.mem_of_getElem? (i := 4) rfl))) (of_decide_eq_true (x6 _ (List.mem_of_getElem? (i := 5) rfl))) (v93.1) (v93.2.1) (v93.2.2) ((x6 _ (List.mem_of_getElem? (i := 6) rfl))) (of_decide_eq_true (x6 _ (List.mem_of_getElem? (i := 7) rfl))) (v94.1) (v94.2.1) (v94.2.2) ((x6 _ (List.mem_of_getElem? (i := 8) rfl))) (of_decide_eq_true (x6 _ (List.mem_of_getElem? (i := 9) rfl))) (v95.1) (v95.2.1) (v95.2.2) ((x6 _ (List.mem_of_getElem? (i := 10) rfl))) (of_decide_eq_true (x6 _ (List.mem_of_getElem? (i := 11) rfl))) (v96.1) (v96.2.1) (v96.2.2) ((x6 _ (List.mem_of_getElem? (i := 12) rfl))) (of_decide_eq_true (x6 _ (List.mem_of_getElem? (i := 13) rfl))) (of_decide_eq_true (x6 _ (List.mem_of_getElem? (i := 14) rfl))) (v97.1) (v97.2.1) (v97.2.2) (of_decide_eq_true (x6 _ (List.mem_of_getElem? (i := 15) rfl))) (of_decide_eq_true (x6 _ (List.mem_of_getElem? (i := 16) rfl))) ((x6 _ (List.mem_of_getElem? (i := 17) rfl))) (clsF_ok (x6 _ (List.mem_of_getElem? (i := 18) rfl))) (of_decide_eq_true (x6 _ (List.mem_of_getElem? (i := 19) rfl))) (clsF_ok (x6 _ (List.mem_of_getElem? (i := 20) rfl))) (of_decide_eq_true (x6 _ (List.mem_of_getElem? (i := 21) rfl))) (of_decide_eq_true (x6 _ (List.mem_of_getElem? (i := 22) rfl))) (of_decide_eq_true (x6 _ (List.mem_of_getElem? (i := 23) rfl))) x_TooMany (of_decide_eq_true (x6 _ (List.mem_of_getElem? (i := 25) rfl))) (v98.1) (v98.2.1) (v98.2.2) (of_decide_eq_true (x6 _ (List.mem_of_getElem? (i := 26) rfl))) (of_decide_eq_true (x6 _ (List.mem_of_getElem? (i := 27) rfl))) (of_decide_eq_true (x6 _ (List.mem_of_getElem? (i := 28) rfl))) (of_decide_eq_true (x6 _ (List.mem_of_getElem? (i := 29) rfl))) ((x7 _ (List.mem_of_getElem? (i := 0) rfl))) (of_decide_eq_true (x7 _ (List.mem_of_getElem? (i := 1) rfl))) (of_decide_eq_true (x7 _ (List.mem_of_getElem? (i := 2) rfl))) (of_decide_eq_true (x7 _ (List.mem_of_getElem? (i := 3) rfl))) ((x7 _ (List.mem_of_getElem? (i := 4) rfl))) (of_decide_eq_true (x7 _ (List.mem_of_getElem? (i := 5) rfl))) (of_decide_eq_true (x7 _ (List.mem_of_getElem? (i := 6) rfl))) (of_decide_eq_true (x7 _ (List.mem_of_getElem? (i := 7) rfl))) (of_decide_eq_true (x7 _ (List.mem_of_getElem? (i := 8) rfl))) (of_decide_eq_true (x7 _ (List.mem_of_getElem? (i := 9) rfl))) g99
end Rg
theorem PySem.Challenge.cw_ringgates_k68_limits_of_stands_and_pairs_holds : PySem.Challenge.rw_ringgates_k68_limits_of_stands_and_pairs.Holds :=
  Rg.hend Rg.spLaw (fun K H a ns hl _ hS => ⟨a, ns, rfl, hS, hl, fun _ => rfl⟩) fun w K h mg fa KX G hmg c => Rg.hfacts (l := PySem.Challenge.rw_ringgates_k68_limits_of_stands_and_pairs) (w := w) KX G hmg c
