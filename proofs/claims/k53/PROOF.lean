import PyProof.Rows.All
import Wide.All
import OpenK.AllK
import Wide.FinOn
import HandS.ForMost
import HandS.Zip
import KE.GoesNew
import HandS.More
import HandS.WrittenGet
import HandS.Walk
import HandS.Wide
import HandS.IsInst
import HandS.Defaults
import HandS.MakeKwOnly
import HandS.EndBits
import HandS.ForExc
import HandS.ExcInit
import HandS.ExcField
import HandS.ExcOwn
import HandS.WordsExc
import HandS.FStr
import HandS.TryOnly
import KE.KExcIs
import HandS.TupAny
import HandS.TupMul
import PyProof.SumAnyB
import KE.GoesEnum
import HandS.ExcSuper
import HandS.ExcCtx
import HandS.HotCalls
import HandS.Star
import HandS.CallLocal
import PyProof.ExcBaseAll.Exception
import HandS.Flt
import HandS.Small
import HandS.FStrTup
import HandS.ExcValue
import KE.KDictKeyed
import KE.KDictDisplayH
import HandS.DictComp
import HandS.Iter
import HandS.RaiseFrom
import HandS.SuiteRaise
import HandS.ExcInitHot
import HandS.Comp
import HandS.Exc
import KE.KAsSuite
import HandS.RaiseMore
import HandS.Flow
import HandS.StrMore
import PyProof.StrBlock2
import HandS.Deep
import PySem.Challenge.RW_ringgates_k53_texts_of_no_deeds
set_option Elab.async false
set_option maxRecDepth 100000
set_option maxHeartbeats 2000000
/-! for a, b in zip(text, tuple): the pairs are new tuples -/
namespace Rg
open PySem PySem.Spec PyProof.Rows L2
/-- the text's signs and the tuple's items, side by side -/
def ItzS (K : PySem.W.Frag) (x : PySem.Str) (b : Addr) : It :=
  ⟨fun i H => ∃ (ys : List V) (c : Nat) (y : V), SqT K H b ys ∧ x.cps[i]? = some c ∧ ys[i]? = some y,
    fun i H v H' => ∃ T c y, v = .ref T ∧ H T = none ∧ H' = upd H T (.tup [.str ⟨#[c]⟩, y]) ∧ x.cps[i]? = some c ∧ ∀ ys, SqT K H b ys → ys[i]? = some y,
    fun i H => ∃ ys : List V, SqT K H b ys ∧ i = min x.cps.size ys.length⟩
theorem turn_zipS {P : Program} {w : World} {K : PySem.W.Frag} {elts : List Expr} {kk : Nat} {tpos : Pos} {x : PySem.Str} {t : Tok} {b z TI TO i1 i2 : Addr} (hb : b ≠ z ∧ b ≠ TI ∧ b ≠ TO ∧ b ≠ i1 ∧ b ≠ i2)
    (S : ZipSep2 z TI TO i1 i2 [i1] [i2, b]) :
    Turn P w K (.Tuple elts kk tpos) (ItzS K x b) [z, TI, TO, i1, i2] z (fun i h => IsZip h z TI TO .none ∧ IsTupOf2 h TI (.ref i1) (.ref i2) ∧ (∃ a1 a2, IsTupOf2 h TO a1 a2) ∧ h.IsStrIter i1 (strIterType x) x t i ∧ h.IsTupleIter i2 b i) where
  mem := by simp
  obj := fun i h st c hc => by
    obtain ⟨hz, hTI, ⟨u, y, hTO⟩, ⟨o1, e1, _, d1⟩, ⟨o2, e2, _, d2⟩⟩ := st
    have e' : c = z ∨ c = TI ∨ c = TO ∨ c = i1 ∨ c = i2 := by simpa using hc
    rcases e' with q | q | q | q | q
    · rw [q]; exact ⟨_, hz, fun v q => nomatch q⟩
    · rw [q]; exact ⟨_, hTI, fun v q => nomatch q⟩
    · rw [q]; exact ⟨_, hTO, fun v q => nomatch q⟩
    · rw [q]; exact ⟨o1, e1, fun v q => by rw [d1] at q; cases q⟩
    · rw [q]; exact ⟨o2, e2, fun v q => by rw [d2] at q; cases q⟩
  keep := fun i h h' st k => by
    obtain ⟨hz, hTI, ⟨u, y, hTO⟩, h1, h2⟩ := st
    obtain ⟨o1, e1, r1⟩ := h1
    exact ⟨k z (by simp) _ hz, k TI (by simp) _ hTI, ⟨u, y, k TO (by simp) _ hTO⟩, ⟨o1, k i1 (by simp) _ e1, r1⟩, h2.at fun o q => k i2 (by simp) o q⟩
  item := by
    intro X hP hw hK hc i pins s σ H E I hf st hg
    subst hP hw hK
    obtain ⟨hz, hTI, ⟨x0, y0, hTO⟩, h1, h2⟩ := st
    obtain ⟨ys, c, y, hqy, hx, hy⟩ := hg
    obtain ⟨its2, rv2, p2, _⟩ := I.tuple hqy
    have hne : b ≠ i2 := hb.2.2.2.2
    have hh : X.A.in1.handled = none := I.ok.hd hc
    have W := GoesN.zip2 (elts := elts) (x1 := kk) (pos := tpos) S (Draws.text hh i1 x t) (Draws.tuple hh i2 b hne its2.toArray) (prog := X.prog) (w := X.w) (A := X.A)
    have hlen : i < min x.cps.size its2.toArray.size := by
      have a1 : i < x.cps.size := (Array.getElem?_eq_some_iff.mp hx).1
      have a2 : i < ys.length := (List.getElem?_eq_some_iff.mp hy).1
      have a3 := rv2.length
      have a4 : its2.toArray.size = its2.length := List.size_toArray ..
      omega
    refine W.goes i s _ _ hlen ⟨hz, hTI, ⟨x0, y0, hTO⟩, h1, h2, p2⟩ fun v h' tk hY st' hk htk => ?_
    obtain ⟨T, u1, u2, rfl, hT, ⟨c', tk', hc', rfl⟩, hu2, hTup⟩ := hY
    obtain ⟨z', TI', TO', h1', h2', p2'⟩ := st'
    have ec : c' = c := Option.some.inj (hc'.symm.trans hx)
    subst ec
    obtain ⟨v2, hv2, rv⟩ := rv2.get hy
    have e2 : u2 = v2 := by
      rw [List.getElem?_toArray] at hu2
      exact Option.some.inj (hu2.symm.trans hv2)
    subst e2
    have new : ObjOk X.prog X.w (upd H T (.tup [.str ⟨#[c']⟩, y])) h' T (.tup [.str ⟨#[c']⟩, y]) :=
      ⟨by show 2 ≤ sizeLine; decide, [.str ⟨#[c']⟩ tk', u2], .cons ⟨_, rfl⟩ (.cons rv .nil), hTup⟩
    have hf' : ∀ c ∈ [z, TO, i1, i2], FpOk X pins H c := fun c hcm => hf c (by simp at hcm ⊢; rcases hcm with q | q | q | q <;> simp [q])
    have I1 : Inv X pins σ (upd H T (.tup [.str ⟨#[c']⟩, y])) { s with heap := h', toks := tk } := I.turnedNew (t' := tk) (ch := [z, TO, i1, i2]) hk hf' hT new
    refine ⟨.ref T, _, I1, rfl, ⟨T, c', y, rfl, I.hok.fresh hT, rfl, hx, fun l hl => by rw [I.tuple_inj hl hqy]; exact hy⟩, ⟨z', TI', TO', h1', h2'⟩, fun d hd => ?_⟩
    have hlt : d < s.heap.objs.size := by
      have e' : d = z ∨ d = TI ∨ d = TO ∨ d = i1 ∨ d = i2 := by simpa using hd
      rcases e' with q | q | q | q | q
      · rw [q]; exact Heap.lt_size hz
      · rw [q]; exact Heap.lt_size hTI
      · rw [q]; exact Heap.lt_size hTO
      · rw [q]; obtain ⟨_, e1, _⟩ := h1; exact Heap.lt_size e1
      · rw [q]; obtain ⟨_, e2, _⟩ := h2; exact Heap.lt_size e2
    rw [upd_ne (Nat.ne_of_lt (Nat.lt_of_lt_of_le hlt hT))]
    exact (hf d hd).1
  done := by
    intro X hP hw hK hc i pins s σ H E I hf st hg
    subst hP hw hK
    obtain ⟨hz, hTI, ⟨x0, y0, hTO⟩, h1, h2⟩ := st
    obtain ⟨ys, hqy, hi⟩ := hg
    obtain ⟨its2, rv2, p2, _⟩ := I.tuple hqy
    have hne : b ≠ i2 := hb.2.2.2.2
    have hh : X.A.in1.handled = none := I.ok.hd hc
    have W := GoesN.zip2 (elts := elts) (x1 := kk) (pos := tpos) S (Draws.text hh i1 x t) (Draws.tuple hh i2 b hne its2.toArray) (prog := X.prog) (w := X.w) (A := X.A)
    have e : i = min x.cps.size its2.toArray.size := by
      have a4 : its2.toArray.size = its2.length := List.size_toArray ..
      rw [a4, ← rv2.length]
      exact hi
    subst e
    have hf' : ∀ c ∈ [z, TO, i1, i2], FpOk X pins H c := fun c hcm => hf c (by simp at hcm ⊢; rcases hcm with q | q | q | q <;> simp [q])
    exact W.stops s _ _ ⟨hz, hTI, ⟨x0, y0, hTO⟩, h1, h2, p2⟩ fun h' tk hk htk => I.turnedL (t' := tk) (ch := [z, TO, i1, i2]) hk hf'
  self := fun A i s Q E st h => wpAny_pyIter_zip st.1 h

def iZipS (K : PySem.W.Frag) (ta : TA) : TI := fun σ H R => ta σ H fun vs H1 => ∃ (x : PySem.Str) (b : Addr) (ys : List V), vs = [.str x, .ref b] ∧ SqT K H1 b ys ∧ R (ItzS K x b) H1
theorem pi_zipS {X : Cx} {e e2 : Expr} {ta : TA} {p pos tpos : Pos} {elts : List Expr} {kk : Nat} (hg : Gl X "zip") (hm : X.mg "zip" = none) (ha : PA X [e, e2] ta)
    (hs : starEach [e, e2] X.env = (false, eval e X.env) :: starEach [e2] X.env := by rfl) (hpl : (backTo pos (starEach [e2] X.env)).any (·.1) = false := by rfl) :
    PI X (.Tuple elts kk tpos) (.Call (.Name "zip" p) [e, e2] [] pos) (iZipS X.K ta) := by
  refine ⟨fun pins s σ H R I h => ?_⟩
  refine Call_ (ld_blt I hg hm PyProof.Rows.boot_zip (PyProof.Rows.callWith_type1 (thn (ha.run pos pins s σ H _ I h) fun us s1 ⟨vs, H1, I1, r1, q1⟩ => ?_) hs hpl))
  obtain ⟨x, b, ys, ex, hqy, q⟩ := q1
  subst ex
  cases r1 with
  | cons r rr =>
    cases rr with
    | cons r' rr =>
      cases rr
      obtain ⟨t, rfl⟩ := r
      cases r'
      have fresh5 : ∀ c, c ∈ [s1.heap.objs.size + 4, s1.heap.objs.size + 2, s1.heap.objs.size + 3, s1.heap.objs.size, s1.heap.objs.size + 1] → FpOk X pins H1 c := fun c hcm => by
        have e' : c = s1.heap.objs.size + 4 ∨ c = s1.heap.objs.size + 2 ∨ c = s1.heap.objs.size + 3 ∨ c = s1.heap.objs.size ∨ c = s1.heap.objs.size + 1 := by simpa using hcm
        have hle : s1.heap.objs.size ≤ c := by
          rcases e' with z | z | z | z | z
          · rw [z]; exact Nat.le_add_right _ _
          · rw [z]; exact Nat.le_add_right _ _
          · rw [z]; exact Nat.le_add_right _ _
          · rw [z]; exact Nat.le_refl _
          · rw [z]; exact Nat.le_add_right _ _
        exact I1.fpOk hle (I1.hok.fresh hle)
      obtain ⟨its2, rv2, p2, _⟩ := I1.tuple hqy
      obtain ⟨o2, ho2, _⟩ := id p2
      have hb : b < s1.heap.objs.size := Heap.lt_size ho2
      refine zip_begins2 (begins_text x t) (begins_tuple b its2.toArray) trivial p2 fun h' hz hTI hTO h1 h2 hsz hk => wpAny_pyIter_zip hz ?_
      have I2 : Inv X pins σ H1 { s1 with heap := h' } := I1.kept (t' := s1.toks) hk
      have S : ZipSep2 (s1.heap.objs.size + 4) (s1.heap.objs.size + 2) (s1.heap.objs.size + 3) s1.heap.objs.size (s1.heap.objs.size + 1) [s1.heap.objs.size] [s1.heap.objs.size + 1, b] :=
        zip_sep2 (fp1 := []) (fp2 := [b]) (fun c hc => by cases hc) (fun c hc => by
          have e : c = b := by simpa using hc
          rw [e]; exact hb)
      exact ⟨s1.heap.objs.size + 4, [s1.heap.objs.size + 4, s1.heap.objs.size + 2, s1.heap.objs.size + 3, s1.heap.objs.size, s1.heap.objs.size + 1], _, _, H1, rfl, I2,
        turn_zipS (t := t) ⟨Nat.ne_of_lt (Nat.lt_of_lt_of_le hb (Nat.le_add_right _ _)), Nat.ne_of_lt (Nat.lt_of_lt_of_le hb (Nat.le_add_right _ _)), Nat.ne_of_lt (Nat.lt_of_lt_of_le hb (Nat.le_add_right _ _)), Nat.ne_of_lt hb, Nat.ne_of_lt (Nat.lt_of_lt_of_le hb (Nat.le_add_right _ _))⟩ S,
        ⟨hz, hTI, ⟨_, _, hTO⟩, ⟨_, h1, rfl, rfl⟩, ⟨_, h2, rfl, rfl⟩⟩, fresh5, q⟩
end Rg

/-! d.get(text), d a dict that the top has written -/
namespace Rg
open PySem PySem.Spec PyProof.Rows L2
/-- the dict's row, and what it has at the text -/
def KGot (K : PySem.W.Frag) (w : World) (a : Addr) (x : PySem.Str) (o : Option V) : Prop :=
  ∃ es n r, K.lookup a = some ⟨.type "dict", none, .dict es n, #[]⟩ ∧ PySem.W.KeysLit w.params es.toList ∧ (a == sysModules) = false ∧ PySem.W.nsIn K a x = some r ∧ RelV (o.getD .non) (r.getD .none)
def KIsD (K : PySem.W.Frag) (a : Addr) : Prop := ∃ es n, K.lookup a = some ⟨.type "dict", none, .dict es n, #[]⟩
theorem KGot.isD {K : PySem.W.Frag} {w : World} {a : Addr} {x : PySem.Str} {o : Option V} (h : KGot K w a x o) : KIsD K a := by
  obtain ⟨es, n, r, e, _⟩ := h
  exact ⟨es, n, e⟩
def tKGet (K : PySem.W.Frag) (w : World) (td ty : TE) : TE := fun σ H Q => td σ H fun x H1 => ∃ a, x = .ref a ∧ KIsD K a ∧ ty σ H1 fun y H2 => ∃ z o, y = .str z ∧ KGot K w a z o ∧ Q (o.getD .non) H2
section
variable {X : Cx} {o e : Expr} {apos cpos : Pos} {td ty : TE}
theorem pe_kget (ho : PE X o td) (he : PE X e ty) (m : M1 X o "get" apos e cpos) : PE X (.Call (.Attribute o "get" apos) [e] [] cpos) (tKGet X.K X.w td ty) := by
  refine ⟨fun pins s σ H Q I h => ?_⟩
  refine wpAny_Call_method m.base m.few m.line PySem.F.plainAttrs_dict PySem.F.slot_dict_get PySem.F.type_dict_get (thn (ho.run pins s σ H _ I h) fun u s1 ⟨x, H1, I1, rx, a, ex, d, q1⟩ => ?_)
  subst ex
  obtain rfl : u = Value.ref a := rx
  obtain ⟨es, n, hl⟩ := d
  have hg := I1.kIn _ _ hl
  refine ⟨⟨_, hg, rfl⟩, fun b q => ?_, ?_⟩
  · cases q
    exact ⟨_, hg, rfl⟩
  rw [m.trees]
  refine Calls.callWith_builtin rfl (Calls.evalArgs_plain (Calls.spliced_cons (thn (he.run pins s1 σ H1 _ I1 q1) fun iv s2 ⟨y, H2, I2, ry, z, ov, ey, g, q2⟩ => Calls.spliced_nil ?_)))
  subst ey
  obtain ⟨t, rfl⟩ := (show ∃ t, iv = Value.str z t from ry)
  obtain ⟨es', n', r, hl', hk, low, hn, rr⟩ := g
  have hm := PySem.W.mapOf_K (prog := X.prog) (w := X.w) I2.kIn hl' hk
  refine call_meetsIn PySem.F.slot_dict_get hm.typeIs PySem.F.entry_dict_get (PySem.F.args_dict_get_2 _ _) (meets_dict_get (strKind X.prog X.w) a (strKind_is X.prog X.w z t) low) ⟨_, hm, ?_⟩
  rw [PySem.W.find_K hl' hn]
  exact ⟨_, H2, I2.tok _, rr, q2⟩
end
end Rg

/-! len(o) by an own __len__ -/
namespace Rg
open PySem PySem.Spec PyProof.Rows L2
section
variable {prog : Program} {w : World} {A : Around} {E : Value → Shared → Prop} {s : Shared} {K : PySem.W.Frag} {x C f : Addr} {ox : Obj} {od : Option Obj}
theorem len_In {Q : Value → Shared → Prop} (X : K.In s.heap) (I : PySem.W.InstAt s.heap x ox C od) (hs : PySem.W.findIn K (.ref C) "__len__" = some (some (.ref f))) (hf : PySem.W.isFn K (.ref f) = true)
    (h : wpAny (model prog w) A.in1 (call (.ref f) [.ref x]) (PySem.W.LenBack Q) E s) : wpAny (model prog w) A (call (.builtin "len") [.ref x]) Q E s := by
  refine Calls.call_function_entry kind_len plain_len entry_len (args_len1 _) ?_
  unfold Builtin.«len»
  refine wpAny_bind (m := oneArg "len" _) (wpAny_pure ?_)
  refine wpAny_bind (m := callSpecial? (.ref x) (Str.ofString "__len__")) (PySem.W.special_fn X I hs (beq_iff_eq.mp hf) (wpAny_mono h (fun r s' hr => ?_) fun _ _ y => y))
  cases r <;> first | exact hr.elim | skip
  rename_i n u
  obtain ⟨⟨h0, h1⟩, hq⟩ := hr
  refine wpAny_bind (wpAny_holding (wpAny_pure ?_))
  refine wpAny_bind (wpAny_letGo ?_)
  show wpAny _ _ (if n < 0 then _ else _) _ _ _
  rw [if_neg (by omega)]
  show wpAny _ _ (if n ≥ 2 ^ 63 then _ else _) _ _ _
  rw [if_neg (by omega)]
  exact wpAny_bind (wpAny_mkInt (wpAny_pure ⟨_, rfl, hq⟩))
end
section
variable {X : Cx} {CX : CXT} {k : Nat} {f C : Addr} {fd : FuncData} {ps : List PySem.Str} {sp : Sp} {E : XK}
/-- len(o): what __len__ promises of [o] -/
def rLenO (C : Addr) (sp : Sp) (E : XK) : List V → Hp → VK → Prop := fun xs H Q => ∃ a dx fs, xs = [.ref a] ∧ H a = some (.ins C dx fs) ∧ sp [.ref a] H (fun v H2 => ∃ n : Int, v = .int n ∧ 0 ≤ n ∧ n < 2 ^ 63 ∧ Q (.int n) H2) E
theorem call_lenO (hm : Meth X.K C "__len__" f) (F : FnOk X.prog X.w X.K X.mg X.base CX k f fd ps sp) (hr : Room (k + 1) X.A) (hb : Binds X.K fd ps []) (hx : Passes CX X E) : CallR X (.builtin "len") (rLenO C sp E) := by
  intro pins s σ H xs us Q I r h
  obtain ⟨a, dx, fs, rfl, ea, q⟩ := h
  cases r with
  | cons r rr =>
    cases rr
    obtain rfl : _ = Value.ref a := r
    obtain ⟨mA, O, _, _, _, _⟩ := ins_get I.hok ea
    obtain ⟨od, J, _⟩ := O.look
    refine len_In I.kIn J hm.at_ hm.fn ?_
    have hl : ([Value.ref a] : List Value).length = ps.length := by
      have := F.len _ _ _ _ q
      exact this
    have hbt := hb s [.ref a] I.kIn (by rw [List.append_nil]; exact hl)
    rw [List.append_nil] at hbt
    refine wpAny_call (codeAny_mono (F.run X.A.in1 X.stack s H ⟨[.ref a], []⟩ [.ref a] [.ref a] _ E hr.in1 I.env0.in1 hbt (.cons rfl .nil) q) fun r s' hq => ?_)
    cases r with
    | error e => exact hx pins σ H s e s' I hq
    | ok fl =>
      cases fl with
      | ret u =>
        obtain ⟨v, H', I3, rv, n, ev, h0, h1, q3⟩ := I.after hq
        subst ev
        obtain ⟨t, rfl⟩ := (show ∃ t, u = Value.int n t from rv)
        exact ⟨⟨h0, h1⟩, V.int n, H', I3.tok _, ⟨_, rfl⟩, q3⟩
      | next => exact False.elim hq
      | brk => exact False.elim hq
      | cont => exact False.elim hq
end
end Rg

set_option maxHeartbeats 4000000
set_option linter.all false
/-! the ground: callable defs, the readings' steps, heaps, data -/
namespace Rg
open PySem PySem.Spec L2
/-- a def of the top that can be called by its name, by places -/
structure Cal (P : Program) (w : World) (K : PySem.W.Frag) (mg : Str → Option Value) (base : Heap) (x : Str) (k : Nat) (ps : List Str) (sp : Sp) : Prop where
  ex : ∃ (f : Addr) (fd : FuncData), mg x = some (.ref f) ∧ PySem.W.keepIn K (.ref f) = true ∧ Binds K fd ps [] ∧ FnOk P w K mg base CX0 k f fd ps sp
section
variable {X : Cx} {k : Nat} {ps : List Str} {sp : Sp} {x : Str} {p pos : Pos} {e : Expr} {es : List Expr} {t : TA}
theorem pe_cal (C : Cal X.prog X.w X.K X.mg X.base x k ps sp) (hr : Room k X.A) (hg : Gl X x) (ha : PA X (e :: es) t) (hdb : (x == ("__debug__" : Str)) = false := by decide)
    (he : starEach (e :: es) X.env = (false, eval e X.env) :: starEach es X.env := by rfl) (hpl : (backTo pos (starEach es X.env)).any (·.1) = false := by rfl) :
    PE X (.Call (.Name x p) (e :: es) [] pos) (tCall sp [] E0 t) := by
  obtain ⟨f, fd, hm, hk, hb, F⟩ := C.ex
  exact pe_call F hr hg hm hk hb .nil pass0 ha hdb he hpl
theorem pe_cal0 (C : Cal X.prog X.w X.K X.mg X.base x k ps sp) (hr : Room k X.A) (hg : Gl X x) (hdb : (x == ("__debug__" : Str)) = false := by decide) :
    PE X (.Call (.Name x p) [] [] pos) (tCall sp [] E0 tNil) := by
  obtain ⟨f, fd, hm, hk, hb, F⟩ := C.ex
  exact pe_call0 F hr hg hm hk hb .nil pass0 hdb
/-- a power of two written numbers -/
theorem pe_powc {i j v : Int} {a b : Nat} {p1 p2 : Pos} (hc : 0 ≤ j ∧ j ≤ 1000000 ∧ i.natAbs < 2 ^ 64) (hv : i ^ j.toNat = v) : PE X (.BinOp (.Constant (.int i) a p1) .Pow (.Constant (.int j) b p2) pos) (tC (.int v)) := by
  have h : PE X (.BinOp (.Constant (.int i) a p1) .Pow (.Constant (.int j) b p2) pos) (tOp (rI CPow fun i j => .int (i ^ j.toNat)) (tC (.int i)) (tC (.int j))) := pe_op op_pow pe_int pe_int
  refine ⟨fun pins s σ H Q I q => h.run pins s σ H Q I ⟨i, j, rfl, rfl, hc, ?_⟩⟩
  show Q (V.int (i ^ j.toNat)) H
  rw [hv]
  exact q
end

/-! ### the steps of a reading -/
section
variable {t u : TS} {D : Ends} {σ : St} {H : Hp} {te ta tb : TE} {g : TG} {Q : VK} {c : TT} {i : Nat} {v : V}
theorem rd_seq (h : t { D with nx := u D } σ H) : tSeq t u D σ H := h
theorem rd_next (h : D.nx σ H) : tNext D σ H := h
theorem rd_asg (h : te σ H fun x H1 => g x σ H1 D.nx) : tAsg te g D σ H := h
theorem rd_name {R : St → Hp → Prop} (h : R (σ.set i (some v)) H) : gName i v σ H R := h
theorem rd_ret (h : te σ H D.rt) : tRet te D σ H := h
theorem rd_drop (h : te σ H fun _ H1 => D.nx σ H1) : tDrop te D σ H := h
theorem rd_ifs (h : c σ H fun b H1 => if b = true then t D σ H1 else u D σ H1) : tIfS c t u D σ H := h
theorem rd_var (e : σ[i]? = some (some v)) (h : Q v H) : tVar i σ H Q := ⟨v, e, h⟩
theorem rd_c (h : Q v H) : tC v σ H Q := h
theorem rd_op {r : R2} (h : ta σ H fun x H1 => tb σ H1 fun y H2 => r x y H2 Q) : tOp r ta tb σ H Q := h
theorem rd_un {r : V → Hp → VK → Prop} (h : ta σ H fun x H1 => r x H1 Q) : tUn r ta σ H Q := h
theorem rd_I0 {f : Int → Int → V} {a b : Int} (h : Q (f a b) H) : rI0 f (.int a) (.int b) H Q := ⟨a, b, rfl, rfl, h⟩
theorem rd_I {C : Int → Int → Prop} {f : Int → Int → V} {a b : Int} (hc : C a b) (h : Q (f a b) H) : rI C f (.int a) (.int b) H Q := ⟨a, b, rfl, rfl, hc, h⟩
theorem rd_eq {x y : V} (hc : scal x y = true) (h : Q (.bl (decide (x = y))) H) : rEq x y H Q := ⟨hc, h⟩
theorem rd_ne {x y : V} (hc : scal x y = true) (h : Q (.bl (!decide (x = y))) H) : rNe x y H Q := ⟨hc, h⟩
theorem rd_test {te : TE} {R : Bool → Hp → Prop} (h : te σ H fun x H' => ∃ k, x = .bl k ∧ R k H') : tTest te σ H R := h
theorem rd_tB {te : TE} {R : Bool → Hp → Prop} (h : te σ H fun x H' => ∃ k, x = .bl k ∧ R k H') : tB te σ H R := h
theorem rd_not {R : Bool → Hp → Prop} (h : c σ H fun b H1 => R (!b) H1) : tNot c σ H R := h
theorem rd_and {c' : TT} {R : Bool → Hp → Prop} (h : c σ H fun b H1 => if b = true then c' σ H1 R else R false H1) : tAnd c c' σ H R := h
theorem rd_or {c' : TT} {R : Bool → Hp → Prop} (h : c σ H fun b H1 => if b = true then R true H1 else c' σ H1 R) : tOr c c' σ H R := h
theorem rd_andV (h : ta σ H fun x H1 => ∃ k, x = .bl k ∧ if k = true then tb σ H1 Q else Q (.bl false) H1) : tAndV ta tb σ H Q := h
theorem rd_orV (h : ta σ H fun x H1 => ∃ k, x = .bl k ∧ if k = true then Q (.bl true) H1 else tb σ H1 Q) : tOrV ta tb σ H Q := h
theorem rd_notV (h : ta σ H fun x H1 => ∃ k, x = .bl k ∧ Q (.bl (!k)) H1) : tNotV ta σ H Q := h
theorem rd_bl {R : Bool → Prop} {k : Bool} (h : R k) : ∃ k', V.bl k = .bl k' ∧ R k' := ⟨k, rfl, h⟩
theorem rd_chain {r r' : R2} {tc : TE} (h : ta σ H fun x H1 => tb σ H1 fun y H2 => r x y H2 fun z H3 => ∃ k, z = .bl k ∧ (if k = true then tc σ H3 fun w' H4 => r' y w' H4 Q else Q (.bl false) H3)) : tChain r r' ta tb tc σ H Q := h
theorem rd_nil {R : List V → Hp → Prop} (h : R [] H) : tNil σ H R := h
theorem rd_cons {tr : TA} {R : List V → Hp → Prop} (h : ta σ H fun x H1 => tr σ H1 fun xs H2 => R (x :: xs) H2) : tCons ta tr σ H R := h
theorem rd_call {sp : Sp} {dvs : List V} {E : XK} {tr : TA} (h : tr σ H fun vs H1 => sp (vs ++ dvs) H1 Q E) : tCall sp dvs E tr σ H Q := h
theorem rd_cb {r : List V → Hp → VK → Prop} {tr : TA} (h : tr σ H fun vs H1 => r vs H1 Q) : tCB r tr σ H Q := h
theorem rd_tup {tr : TA} (h : tr σ H fun xs H1 => xs.length ≤ sizeLine ∧ ∀ p, H1 p = none → Q (.ref p) (upd H1 p (.tup xs))) : tTup tr σ H Q := h
theorem rd_lst {tr : TA} (h : tr σ H fun xs H1 => xs.length ≤ sizeLine ∧ ∀ p, H1 p = none → Q (.ref p) (upd H1 p (.lst xs))) : tLst tr σ H Q := h
theorem rd_isN (h : ta σ H fun x H1 => Q (.bl (decide (x = .non))) H1) : tIsN ta σ H Q := h
end
theorem rd_ifd {p A B : Prop} [Decidable p] (h1 : p → A) (h2 : ¬ p → B) : if decide p = true then A else B := by
  by_cases h : p
  · rw [decide_eq_true h]
    exact iteT (h1 h)
  · rw [decide_eq_false h]
    exact iteF (h2 h)
theorem rd_ifT {p A B : Prop} [Decidable p] (h : p) (h1 : A) : if decide p = true then A else B := rd_ifd (fun _ => h1) (fun z => absurd h z)
theorem rd_ifF {p A B : Prop} [Decidable p] (h : ¬ p) (h1 : B) : if decide p = true then A else B := rd_ifd (fun z => absurd z h) (fun _ => h1)
theorem rd_ifI {a b : Int} {A B : Prop} (h1 : a = b → A) (h2 : a ≠ b → B) : if decide (V.int a = V.int b) = true then A else B := rd_ifd (fun h => h1 (by injection h)) (fun h => h2 fun e => h (by rw [e]))
theorem rd_ifIn {a b : Int} {A B : Prop} (h1 : a = b → B) (h2 : a ≠ b → A) : if (!decide (V.int a = V.int b)) = true then A else B := by
  by_cases h : a = b
  · subst h
    simpa using h1 rfl
  · have : ¬ V.int a = V.int b := fun e => h (by injection e)
    simpa [this] using h2 h
theorem rd_ifb {k : Bool} {A B : Prop} (h1 : k = true → A) (h2 : k = false → B) : if k = true then A else B := by
  cases k
  · exact iteF (h2 rfl)
  · exact iteT (h1 rfl)
theorem rd_ifbT {k : Bool} {A B : Prop} (h : k = true) (h1 : A) : if k = true then A else B := by
  subst h
  exact iteT h1
theorem rd_ifbF {k : Bool} {A B : Prop} (h : k = false) (h1 : B) : if k = true then A else B := by
  subst h
  exact iteF h1
theorem rd_ifn {k : Bool} {A B : Prop} (h1 : k = true → B) (h2 : k = false → A) : if (!k) = true then A else B := by
  cases k
  · exact iteT (h2 rfl)
  · exact iteF (h1 rfl)
/-- a display's place -/
theorem rd_new {n : Nat} {R : Prop} (h : Nat.ble n sizeLine = true) (q : R) : n ≤ sizeLine ∧ R := ⟨Nat.le_of_ble_eq_true h, q⟩

/-! ### heaps -/
theorem same_upd {H : Hp} {p : Addr} {o : HO} (h : H p = none) : Same H (upd H p o) := fun b u e => by rw [upd_ne (ne_of_none e h)]; exact e
/-- tuples stay -/
def Tk (H H' : Hp) : Prop := ∀ b xs, H b = some (.tup xs) → H' b = some (.tup xs)
theorem Tk.refl (H : Hp) : Tk H H := fun _ _ h => h
theorem Tk.trans {H H1 H2 : Hp} (a : Tk H H1) (b : Tk H1 H2) : Tk H H2 := fun c o h => b c o (a c o h)
theorem Tk.of {H H' : Hp} (s : Same H H') : Tk H H' := fun c o h => s c _ h
theorem Tk.new {H : Hp} {p : Addr} {o : HO} (h : H p = none) : Tk H (upd H p o) := .of (same_upd h)
/-- a list is changed -/
theorem Tk.lst {H : Hp} {p : Addr} {xs : List V} {o : HO} (h : H p = some (.lst xs)) : Tk H (upd H p o) := fun b u e => by rw [upd_ne (ne_of e h (fun z => nomatch z))]; exact e
theorem Tk.ins {H : Hp} {p C dx : Addr} {fs : List (Str × V)} {o : HO} (h : H p = some (.ins C dx fs)) : Tk H (upd H p o) := fun b u e => by rw [upd_ne (ne_of e h (fun z => nomatch z))]; exact e
/-- all but two lists are kept -/
def Kp (t g : Addr) (H H' : Hp) : Prop := ∀ b o, H b = some o → b ≠ t → b ≠ g → H' b = some o
theorem Kp.refl (t g : Addr) (H : Hp) : Kp t g H H := fun _ _ h _ _ => h
theorem Kp.trans {t g : Addr} {H H1 H2 : Hp} (a : Kp t g H H1) (b : Kp t g H1 H2) : Kp t g H H2 := fun c o h n m => b c o (a c o h n m) n m
theorem Kp.of {t g : Addr} {H H' : Hp} (s : Same H H') : Kp t g H H' := fun c o h _ _ => s c o h
theorem Kp.new {t g : Addr} {H : Hp} {p : Addr} {o : HO} (h : H p = none) : Kp t g H (upd H p o) := .of (same_upd h)
theorem Kp.t {t g : Addr} {H : Hp} {o : HO} : Kp t g H (upd H t o) := fun b u e n _ => by rw [upd_ne n]; exact e
theorem Kp.g {t g : Addr} {H : Hp} {o : HO} : Kp t g H (upd H g o) := fun b u e _ n => by rw [upd_ne n]; exact e
/-- a place that was free, written again -/
theorem Kp.put {t g : Addr} {H H' : Hp} {p : Addr} {o : HO} (k : Kp t g H H') (h : H p = none) : Kp t g H (upd H' p o) := fun b u e n m => by rw [upd_ne (ne_of_none e h)]; exact k b u e n m
/-- the draws' tray: two lists; at most n mixed draws so far -/
structure Tray (H : Hp) (t g : Addr) (n : Nat) : Prop where
  ne : t ≠ g
  ex : ∃ (gs : List Int) (a f c : Int), H t = some (.lst [.ref g, .int a, .int f, .int c]) ∧ H g = some (.lst (gs.map V.int)) ∧ (∀ z ∈ gs, 0 ≤ z) ∧ 0 ≤ a ∧ 0 ≤ f ∧ f < 2305843009213693952 ∧ 0 ≤ c ∧ c ≤ (n : Int)
theorem Tray.mono {H : Hp} {t g : Addr} {n m : Nat} (T : Tray H t g n) (h : n ≤ m) : Tray H t g m := by
  obtain ⟨ne, gs, a, f, c, h1, h2, h3, h4, h5, h6, h7, h8⟩ := T
  exact ⟨ne, gs, a, f, c, h1, h2, h3, h4, h5, h6, h7, by omega⟩
theorem Tray.same {H H' : Hp} {t g : Addr} {n : Nat} (T : Tray H t g n) (s : Same H H') : Tray H' t g n := by
  obtain ⟨ne, gs, a, f, c, h1, h2, h3⟩ := T
  exact ⟨ne, gs, a, f, c, s _ _ h1, s _ _ h2, h3⟩
theorem Tray.new {H : Hp} {t g p : Addr} {n : Nat} {o : HO} (T : Tray H t g n) (h : H p = none) : Tray (upd H p o) t g n := T.same (same_upd h)
theorem Tray.put {H : Hp} {t g p : Addr} {n : Nat} {o : HO} (T : Tray H t g n) (h1 : p ≠ t) (h2 : p ≠ g) : Tray (upd H p o) t g n := by
  obtain ⟨ne, gs, a, f, c, e1, e2, h3⟩ := T
  exact ⟨ne, gs, a, f, c, by rw [upd_ne (Ne.symm h1)]; exact e1, by rw [upd_ne (Ne.symm h2)]; exact e2, h3⟩
theorem Tray.ht {H : Hp} {t g : Addr} {n : Nat} (T : Tray H t g n) : ∃ xs, H t = some (.lst xs) := by
  obtain ⟨_, _, _, _, _, e, _⟩ := T
  exact ⟨_, e⟩
theorem Tray.hg {H : Hp} {t g : Addr} {n : Nat} (T : Tray H t g n) : ∃ xs, H g = some (.lst xs) := by
  obtain ⟨_, _, _, _, _, _, e, _⟩ := T
  exact ⟨_, e⟩
/-- a place that was free is none of the tray's -/
theorem Tray.net {H : Hp} {t g p : Addr} {n : Nat} (T : Tray H t g n) (h : H p = none) : p ≠ t := by
  obtain ⟨_, e⟩ := T.ht
  exact Ne.symm (ne_of_none e h)
theorem Tray.neg {H : Hp} {t g p : Addr} {n : Nat} (T : Tray H t g n) (h : H p = none) : p ≠ g := by
  obtain ⟨_, e⟩ := T.hg
  exact Ne.symm (ne_of_none e h)
theorem Tray.netT {H : Hp} {t g p : Addr} {n : Nat} {xs : List V} (T : Tray H t g n) (h : H p = some (.tup xs)) : p ≠ t := by
  obtain ⟨_, e⟩ := T.ht
  exact ne_of h e (fun z => nomatch z)
theorem Tray.negT {H : Hp} {t g p : Addr} {n : Nat} {xs : List V} (T : Tray H t g n) (h : H p = some (.tup xs)) : p ≠ g := by
  obtain ⟨_, e⟩ := T.hg
  exact ne_of h e (fun z => nomatch z)
theorem Kp.tk {t g : Addr} {H H' : Hp} {n : Nat} (k : Kp t g H H') (T : Tray H t g n) : Tk H H' := fun b xs e => k b _ e (T.netT e) (T.negT e)

/-! ### data: None, bools, ints, texts, and tuples of such, at any depth -/
mutual
inductive Rp (H : Hp) : V → PyData → Prop
  | non : Rp H .non .none
  | bl (b : Bool) : Rp H (.bl b) (.bool b)
  | int (i : Int) : Rp H (.int i) (.int i)
  | str (x : Str) : Rp H (.str x) (.str x)
  | tup {a : Addr} {xs : List V} {ds : List PyData} : H a = some (.tup xs) → RpAll H xs ds → Rp H (.ref a) (.tuple ds)
inductive RpAll (H : Hp) : List V → List PyData → Prop
  | nil : RpAll H [] []
  | cons {v : V} {vs : List V} {d : PyData} {ds : List PyData} : Rp H v d → RpAll H vs ds → RpAll H (v :: vs) (d :: ds)
end
mutual
theorem Rp.keep {H H' : Hp} (k : Tk H H') : ∀ {d : PyData} {v : V}, Rp H v d → Rp H' v d
  | _, _, .non => .non
  | _, _, .bl b => .bl b
  | _, _, .int i => .int i
  | _, _, .str x => .str x
  | _, _, .tup e h => .tup (k _ _ e) (RpAll.keep k h)
theorem RpAll.keep {H H' : Hp} (k : Tk H H') : ∀ {ds : List PyData} {vs : List V}, RpAll H vs ds → RpAll H' vs ds
  | _, _, .nil => .nil
  | _, _, .cons h t => .cons (Rp.keep k h) (RpAll.keep k t)
end
mutual
theorem Rp.dp {K : PySem.W.Frag} {H : Hp} : ∀ {d : PyData} {v : V}, Rp H v d → Dp K H v d
  | _, _, .non => .non
  | _, _, .bl b => .bl b
  | _, _, .int i => .int i
  | _, _, .str x => .str x
  | _, _, .tup e h => .tup (SqT.of e) (RpAll.dp h)
theorem RpAll.dp {K : PySem.W.Frag} {H : Hp} : ∀ {ds : List PyData} {vs : List V}, RpAll H vs ds → DpAll K H vs ds
  | _, _, .nil => .nil
  | _, _, .cons h t => .cons (Rp.dp h) (RpAll.dp t)
end
theorem Rp.tup_inv {H : Hp} {v : V} {ds : List PyData} (h : Rp H v (.tuple ds)) : ∃ p xs, v = .ref p ∧ H p = some (.tup xs) ∧ RpAll H xs ds := by
  cases h with
  | tup e a => exact ⟨_, _, rfl, e, a⟩
theorem Rp.int_inv {H : Hp} {v : V} {i : Int} (h : Rp H v (.int i)) : v = .int i := by cases h; rfl
theorem Rp.str_inv {H : Hp} {v : V} {x : Str} (h : Rp H v (.str x)) : v = .str x := by cases h; rfl
theorem RpAll.nil_inv {H : Hp} {vs : List V} (h : RpAll H vs []) : vs = [] := by cases h; rfl
theorem RpAll.cons_inv {H : Hp} {vs : List V} {d : PyData} {ds : List PyData} (h : RpAll H vs (d :: ds)) : ∃ v r, vs = v :: r ∧ Rp H v d ∧ RpAll H r ds := by
  cases h with
  | cons a b => exact ⟨_, _, rfl, a, b⟩
theorem RpAll.length {H : Hp} : ∀ {ds : List PyData} {vs : List V}, RpAll H vs ds → vs.length = ds.length
  | _, _, .nil => rfl
  | _, _, .cons _ t => congrArg Nat.succ (RpAll.length t)
theorem RpAll.get {H : Hp} : ∀ {ds : List PyData} {vs : List V} {i : Nat} {v : V}, RpAll H vs ds → vs[i]? = some v → ∃ d, ds[i]? = some d ∧ Rp H v d
  | _, _, _, _, .nil, e => by simp at e
  | _, _, 0, _, .cons h _, e => by
    simp at e
    subst e
    exact ⟨_, rfl, h⟩
  | _, _, i + 1, _, .cons _ t, e => by
    obtain ⟨d, h1, h2⟩ := RpAll.get (i := i) t (by simpa using e)
    exact ⟨d, by simpa using h1, h2⟩
theorem RpAll.get2 {H : Hp} : ∀ {ds : List PyData} {vs : List V} {i : Nat} {d : PyData}, RpAll H vs ds → ds[i]? = some d → ∃ v, vs[i]? = some v ∧ Rp H v d
  | _, _, _, _, .nil, e => by simp at e
  | _, _, 0, _, .cons h _, e => by
    simp at e
    subst e
    exact ⟨_, rfl, h⟩
  | _, _, i + 1, _, .cons _ t, e => by
    obtain ⟨d, h1, h2⟩ := RpAll.get2 (i := i) t (by simpa using e)
    exact ⟨d, by simpa using h1, h2⟩
theorem RpAll.append {H : Hp} : ∀ {ds es : List PyData} {vs us : List V}, RpAll H vs ds → RpAll H us es → RpAll H (vs ++ us) (ds ++ es)
  | _, _, _, _, .nil, h => h
  | _, _, _, _, .cons a t, h => .cons a (RpAll.append t h)
theorem RpAll.ints {H : Hp} : ∀ (ns : List Int), RpAll H (ns.map V.int) (ns.map PyData.int)
  | [] => .nil
  | n :: ns => .cons (.int n) (RpAll.ints ns)
theorem RpAll.ints_inv {H : Hp} : ∀ {ns : List Int} {vs : List V}, RpAll H vs (ns.map PyData.int) → vs = ns.map V.int
  | [], _, h => h.nil_inv
  | n :: ns, _, h => by
    obtain ⟨v, r, rfl, h1, h2⟩ := RpAll.cons_inv h
    rw [h1.int_inv, RpAll.ints_inv h2]
    rfl
end Rg

/-! globals, the domain's data, promises -/
namespace Rg
open PySem PySem.Spec L2
/-- built-in names that the top leaves alone -/
structure BT (mg : Str → Option Value) : Prop where
  g_len : mg "len" = none
  g_range : mg "range" = none
  g_isinstance : mg "isinstance" = none
  g_all : mg "all" = none
  g_max : mg "max" = none
  g_sorted : mg "sorted" = none
  g_tuple : mg "tuple" = none
  g_list : mg "list" = none
  g_int : mg "int" = none
  g_bool : mg "bool" = none
  g_str : mg "str" = none
  g_enumerate : mg "enumerate" = none
  g_zip : mg "zip" = none
  g_sum : mg "sum" = none
  g_min : mg "min" = none
  g_any : mg "any" = none
  g_abs : mg "abs" = none
/-- an int of the top -/
def GI (mg : Str → Option Value) (x : Str) (n : Int) : Prop := ∃ t, mg x = some (Value.int n t)
/-- a tuple of the top -/
def GTu (K : PySem.W.Frag) (mg : Str → Option Value) (x : Str) (xs : List V) : Prop := ∃ a, mg x = some (.ref a) ∧ ∀ H, SqT K H a xs
def tGt (K : PySem.W.Frag) (xs : List V) : TE := fun _ H Q => ∀ a, (∀ H, SqT K H a xs) → Q (.ref a) H
section
variable {X : Cx} {x : Str} {pos : Pos}
theorem pe_gi {n : Int} (h : GI X.mg x n) (hg : Gl X x) (hd : (x == ("__debug__" : Str)) = false := by decide) : PE X (.Name x pos) (tC (.int n)) := by
  obtain ⟨t, e⟩ := h
  exact pe_glob hg e ⟨t, rfl⟩ hd
theorem pe_gt {xs : List V} (h : GTu X.K X.mg x xs) (hg : Gl X x) (hd : (x == ("__debug__" : Str)) = false := by decide) : PE X (.Name x pos) (tGt X.K xs) := by
  obtain ⟨a, e, q⟩ := h
  have p : PE X (.Name x pos) (tC (.ref a)) := pe_glob hg e rfl hd
  exact ⟨fun pins s σ H Q I hw => p.run pins s σ H Q I (hw a q)⟩
end
section
variable {σ : L2.St} {H : Hp} {Q : VK} {K : PySem.W.Frag}
theorem rd_ixL {p : Addr} {xs : List V} {i : Int} {v : V} (h : H p = some (.lst xs)) (e : atI xs i = some v) (q : Q v H) : rIxL K (.ref p) (.int i) H Q := ⟨p, xs, i, v, rfl, rfl, SqL.of h, e, q⟩
theorem rd_ixT {p : Addr} {xs : List V} {i : Int} {v : V} (h : H p = some (.tup xs)) (e : atI xs i = some v) (q : Q v H) : rIxT K (.ref p) (.int i) H Q := ⟨p, xs, i, v, rfl, rfl, SqT.of h, e, q⟩
theorem rd_isi {x c : V} {t u : Value} {b : Bool} (h1 : ClsV c u) (h2 : TyX K H x t) (h3 : PySem.W.kitOne K t u = some b) (q : Q (.bl b) H) : rIsi K [x, c] H Q := ⟨x, c, t, u, b, rfl, h1, h2, h3, q⟩
end
section
variable {σ : L2.St} {H : Hp} {Q : VK} {K : PySem.W.Frag} {D : Ends}
theorem rd_mod {a b : Int} (hc : 0 < b) (h : Q (.int (a % b)) H) : rI (fun _ j => 0 < j) (fun i j => .int (i % j)) (.int a) (.int b) H Q := ⟨a, b, rfl, rfl, hc, h⟩
theorem rd_mul {a b : Int} (hc : CMul a b) (h : Q (.int (a * b)) H) : rI CMul (fun i j => .int (i * j)) (.int a) (.int b) H Q := ⟨a, b, rfl, rfl, hc, h⟩
theorem rd_fdivW {a b : Int} (hc : CDivW a b) (h : Q (.int (a / b)) H) : rI CDivW (fun i j => .int (i / j)) (.int a) (.int b) H Q := ⟨a, b, rfl, rfl, hc, h⟩
theorem rd_pow {a b : Int} (hc : CPow a b) (h : Q (.int (a ^ b.toNat)) H) : rI CPow (fun i j => .int (i ^ j.toNat)) (.int a) (.int b) H Q := ⟨a, b, rfl, rfl, hc, h⟩
theorem rd_neD {x y : V} {d e : PyData} (h1 : Dp K H x d) (h2 : Dp K H y e) (s1 : SeqAt.shaped d = true) (s2 : SeqAt.shaped e = true) (h : Q (.bl (!PyData.eqv d e)) H) : rNeD K x y H Q := ⟨d, e, h1, h2, s1, s2, h⟩
theorem rd_eqD {x y : V} {d e : PyData} (h1 : Dp K H x d) (h2 : Dp K H y e) (s1 : SeqAt.shaped d = true) (s2 : SeqAt.shaped e = true) (h : Q (.bl (PyData.eqv d e)) H) : rEqD K x y H Q := ⟨d, e, h1, h2, s1, s2, h⟩
theorem rd_bm {T : String} {r : V → List V → Hp → VK → Prop} {to : TE} {t : TA} (h : to σ H fun x H1 => tyV K T x H1 ∧ t σ H1 fun xs H2 => r x xs H2 Q) : tBM K T r to t σ H Q := h
theorem rd_bm0 {T : String} {r : V → List V → Hp → VK → Prop} {to : TE} (h : to σ H fun x H1 => tyV K T x H1 ∧ r x [] H1 Q) : tBM0 K T r to σ H Q := h
/-- a list's method -/
theorem rd_tyL {p : Addr} {xs : List V} {R : Prop} (h : H p = some (.lst xs)) (q : R) : tyV K "list" (.ref p) H ∧ R := ⟨.inl ⟨rfl, xs, SqL.of h⟩, q⟩
theorem rd_append {p : Addr} {xs : List V} {y : V} (h : H p = some (.lst xs)) (hl : xs.length < sizeLine) (q : Q .non (upd H p (.lst (xs ++ [y])))) : rAppend (.ref p) [y] H Q := ⟨p, xs, y, rfl, rfl, h, hl, q⟩
theorem rd_pop0 {p : Addr} {x : V} {xs : List V} (h : H p = some (.lst (x :: xs))) (q : Q x (upd H p (.lst xs))) : rPopAt (.ref p) [.int 0] H Q := ⟨p, x :: xs, 0, 0, x, rfl, rfl, h, by decide, by decide, by simp [seqIndex?], rfl, q⟩
theorem rd_gsub {to ti : TE} {t : TSet} {v : V} {R : L2.St → Hp → Prop} (h : to σ H fun o H1 => ti σ H1 fun i H2 => t o i v H2 fun H3 => R σ H3) : gSub to ti t v σ H R := h
theorem rd_setL {p : Addr} {xs : List V} {k : Int} {j : Nat} {v : V} {R : Hp → Prop} (h : H p = some (.lst xs)) (e : ixN xs.length k = some j) (q : R (upd H p (.lst (xs.set j v)))) : rSetL (.ref p) (.int k) v H R := ⟨p, xs, k, j, rfl, rfl, h, e, q⟩
theorem rd_sl {r : V → Option Int → Option Int → Hp → VK → Prop} {te : TE} {tl th : TO} (h : te σ H fun x H1 => tl σ H1 fun l H2 => th σ H2 fun u H3 => r x l u H3 Q) : tSl r te tl th σ H Q := h
theorem rd_gt {xs : List V} (h : ∀ a, (∀ H, SqT K H a xs) → Q (.ref a) H) : tGt K xs σ H Q := h
theorem rd_yes {R : Bool → Hp → Prop} (h : R true H) : tYes σ H R := h
end
theorem while_inv {c : TT} {tb : TS} {D : Ends} {σ : L2.St} {H : Hp} (W : Nat → L2.St → Hp → Prop) (h0 : ∃ m, W m σ H) (hx : ∀ m σ H, W m σ H → D.nx σ H)
    (hs : ∀ B : L2.St → Hp → Prop, (∀ m σ H, W m σ H → B σ H) → ∀ m σ H, W m σ H → c σ H fun b H1 => if b = true then ∃ N : L2.St → Hp → Prop, (∀ σ' H', N σ' H' → ∃ m', m' < m ∧ W m' σ' H') ∧ tb { nx := N, ct := N, bk := B, rt := D.rt } σ H1 else B σ H1) :
    tWhile c tb D σ H := ⟨W, h0, hs D.nx hx⟩
section
variable {J : It} {n : Nat} {G : Hp → Prop} {Y : Nat → Hp → V → Hp → Prop}
/-- a for without break -/
theorem for_inv (w : Walk J n G Y) {g : TG} {tb : TS} {Nx : L2.St → Hp → Prop} {rt : VK} {σ : L2.St} {H : Hp} (Pv : Nat → L2.St → Hp → Prop) (h0 : Pv 0 σ H) (hG : ∀ i σ H, i ≤ n → Pv i σ H → G H)
    (hs : ∀ (B : L2.St → Hp → Prop) i x σ H H', i < n → Pv i σ H → Y i H x H' → g x σ H' fun σ2 H2 => tb { nx := Pv (i + 1), rt := rt, bk := B, ct := Pv (i + 1) } σ2 H2) (hd : ∀ σ H, Pv n σ H → Nx σ H) :
    ∃ W : Nat → Nat → L2.St → Hp → Prop, (∃ m, W 0 m σ H) ∧ ∀ i m σ H, W i m σ H →
      (J.stop i H ∧ Nx σ H) ∨ (J.go i H ∧ ∃ N : L2.St → Hp → Prop, (∀ σ' H', N σ' H' → ∃ m', m' < m ∧ W (i + 1) m' σ' H') ∧ ∀ x H', J.yld i H x H' → g x σ H' fun σ2 H2 => tb { nx := N, rt := rt, bk := Nx, ct := N } σ2 H2) :=
  for_it w (D := ⟨Nx, rt, fun _ _ => False, fun _ _ => False⟩) Pv h0 hG (fun i x σ H H' hi p y => hs Nx i x σ H H' hi p y) hd
end
theorem rd_for {wi : TI} {g : TG} {tb : TS} {D : Ends} {σ : L2.St} {H : Hp} (h : wi σ H fun J H1 => ∃ W : Nat → Nat → L2.St → Hp → Prop, (∃ m, W 0 m σ H1) ∧ ∀ i m σ H, W i m σ H →
  (J.stop i H ∧ D.nx σ H) ∨ (J.go i H ∧ ∃ N : L2.St → Hp → Prop, (∀ σ' H', N σ' H' → ∃ m', m' < m ∧ W (i + 1) m' σ' H') ∧ ∀ x H', J.yld i H x H' → g x σ H' fun σ2 H2 => tb { D with nx := N, ct := N, bk := D.nx } σ2 H2)) : tFor wi g tb D σ H := h
theorem rd_ilist {K : PySem.W.Frag} {tl : TE} {σ : L2.St} {H : Hp} {R : It → Hp → Prop} (h : tl σ H fun x H1 => ∃ a, x = .ref a ∧ (∃ xs, SqL K H1 a xs) ∧ R (Itl K a) H1) : iList K tl σ H R := h
theorem rd_itup {K : PySem.W.Frag} {tl : TE} {σ : L2.St} {H : Hp} {R : It → Hp → Prop} (h : tl σ H fun x H1 => ∃ a, x = .ref a ∧ (∃ xs, SqT K H1 a xs) ∧ R (Itt K a) H1) : iTup K tl σ H R := h
theorem rd_irng {ta : TA} {σ : L2.St} {H : Hp} {R : It → Hp → Prop} (h : ta σ H fun vs H1 => ∃ j : Int, vs = [.int j] ∧ -(2 ^ 62) ≤ j ∧ j < 2 ^ 62 ∧ R (Itr 0 j.toNat) H1) : iRng1 ta σ H R := h
theorem rd_rng {j : Int} {H : Hp} {R : It → Hp → Prop} (h1 : -(2 ^ 62) ≤ j) (h2 : j < 2 ^ 62) (h : R (Itr 0 j.toNat) H) : ∃ k : Int, [V.int j] = [V.int k] ∧ -(2 ^ 62) ≤ k ∧ k < 2 ^ 62 ∧ R (Itr 0 k.toNat) H := ⟨j, rfl, h1, h2, h⟩
/-- a comprehension -/
theorem rd_lc {wi : TI} {g : TG} {tt : TT} {te : TE} {vs : List Nat} {σ : L2.St} {H : Hp} {Q : VK} (h : wi σ H fun J H1 => ∀ D, H1 D = none → ∃ W : Nat → Nat → Hp → Prop, (∃ m, W 0 m (upd H1 D (.lst []))) ∧ ∀ i m H, W i m H →
  (J.stop i H ∧ Q (.ref D) H) ∨ (J.go i H ∧ ∃ Nx : Hp → Prop, (∀ H', Nx H' → ∃ m', m' < m ∧ W (i + 1) m' H') ∧ ∀ x H', J.yld i H x H' → g x (wipe σ vs) H' fun σ2 H2 => wipe σ2 vs = wipe σ vs ∧ tt σ2 H2 fun b H3 =>
    if b = true then te σ2 H3 fun y H4 => ∃ acc, H4 D = some (.lst acc) ∧ acc.length < sizeLine ∧ Nx (upd H4 D (.lst (acc ++ [y]))) else Nx H3)) : tLc wi g tt te vs σ H Q := h
theorem rd_max {a b : Int} {H : Hp} {Q : VK} (h : Q (.int (if b > a then b else a)) H) : (fun xs H Q => ∃ i j, xs = [V.int i, V.int j] ∧ Q (.int (if j > i then j else i)) H) [V.int a, V.int b] H Q := ⟨a, b, rfl, h⟩
/-- shaped data: no dict, no depth above 64 -/
theorem shaped_ints (gs : List Int) : SeqAt.shaped (.list (gs.map .int)) = true := by
  have h1 : ∀ gs : List Int, PyData.canLayAll0 (gs.map .int) = true := fun gs => by
    induction gs with
    | nil => rfl
    | cons a r ih => simpa [PyData.canLayAll0, PyData.canLay0] using ih
  have h2 : ∀ gs : List Int, PyData.depthAll (gs.map .int) = 0 := fun gs => by
    induction gs with
    | nil => rfl
    | cons a r ih =>
      show max (PyData.depth (.int a)) (PyData.depthAll (r.map .int)) = 0
      rw [ih]
      rfl
  unfold SeqAt.shaped
  rw [show PyData.canLay0 (.list (gs.map .int)) = PyData.canLayAll0 (gs.map .int) from rfl, h1, show PyData.depth (.list (gs.map .int)) = PyData.depthAll (gs.map .int) + 1 from rfl, h2]
  rfl
theorem rd_in {K : PySem.W.Frag} {H : Hp} {Q : VK} {x : V} {p : Addr} {xs : List V} (h : H p = some (.lst xs)) (f1 : flatV x = true) (f2 : xs.all flatV = true) (q : Q (.bl (inV x xs)) H) : rIn K false x (.ref p) H Q := ⟨p, xs, rfl, .inl (SqL.of h), f1, f2, q⟩
theorem rd_notInT {K : PySem.W.Frag} {H : Hp} {Q : VK} {x : V} {p : Addr} {xs : List V} (h : SqT K H p xs) (f1 : flatV x = true) (f2 : xs.all flatV = true) (q : Q (.bl (!inV x xs)) H) : rIn K true x (.ref p) H Q := ⟨p, xs, rfl, .inr h, f1, f2, q⟩
theorem rd_ifS {a b : Str} {A B : Prop} (h1 : a = b → A) (h2 : a ≠ b → B) : if decide (V.str a = V.str b) = true then A else B := rd_ifd (fun h => h1 (by injection h)) (fun h => h2 fun e => h (by rw [e]))
theorem div3 {i : Int} : CDivW i 3 := wide_div (b := 8) (by decide) (by decide) (by decide) (by decide)
theorem div7 {i : Int} : CDivW i 7 := wide_div (b := 8) (by decide) (by decide) (by decide) (by decide)
end Rg

/-! the domain: words, rows, segments; what fits -/
namespace Rg
open PySem PySem.Spec L2
inductive Wd where
  | num (n : Int)
  | ptr (r s p : Int)
def Wd.d : Wd → PyData
  | .num n => .tuple [.str "num", .int n]
  | .ptr r s p => .tuple [.str "ptr", .int r, .int s, .int p]
structure Rw where
  op : Str
  ns : List Int
def Rw.d (r : Rw) : PyData := .tuple (.str r.op :: r.ns.map .int)
structure Sg where
  r1 : Int
  r2 : Int
  r3 : Int
  ri : Str
  ga : Int
  ws : List Wd
  rs : List Rw
def Sg.d (s : Sg) : PyData := .tuple [.tuple [.int s.r1, .int s.r2, .int s.r3], .str s.ri, .int s.ga, .tuple (s.ws.map Wd.d), .tuple (s.rs.map Rw.d)]
def rowForms : List (Str × Str) := [("set", "n"), ("add", "n"), ("load", "pn"), ("store", "pn"), ("fetch", "ppn"), ("keep", "ppn"), ("aim", "psn"), ("move", "ppn"), ("zero", "n"), ("go", "n"), ("call", "p"), ("return", "")]
def formOf (w : Str) : Option Str := rowForms.lookup w
def opsL : List Str := ["set", "add", "load", "store", "fetch", "keep", "aim", "move", "zero", "go", "call", "return"]
def below (n b : Int) : Bool := decide (0 ≤ n) && decide (n < b)
theorem below_of {n b : Int} (h1 : 0 ≤ n) (h2 : n < b) : below n b = true := by unfold below; rw [decide_eq_true h1, decide_eq_true h2]; rfl
theorem below_iff {n b : Int} : below n b = true ↔ 0 ≤ n ∧ n < b := by unfold below; simp
def numFits (c : Nat) (n m : Int) : Bool := if c = 112 then below n 4 else if c = 115 then below n m else true
def fitsNs : List Nat → List Int → Int → Bool
  | c :: cs, n :: ns, m => numFits c n m && fitsNs cs ns m
  | _, _, _ => true
def RwForm (r : Rw) : Prop := ∃ l, formOf r.op = some l ∧ l.cps.size = r.ns.length
def rowFits (r : Rw) (m : Int) : Bool := match formOf r.op with
  | some l => fitsNs l.cps.toList r.ns m
  | none => false
def wdFits : Wd → Int → Int → Bool
  | .num n, b, _ => below n b
  | .ptr r s p, _, m => below r 8 && (below s m && decide (0 ≤ p))
def rightsL : List Str := ["", "r", "w", "x", "rw", "rx", "wx", "rwx"]
def riFits (x : Str) : Bool := inV (.str x) (rightsL.map V.str)
def brFits (a b c : Int) : Bool := below a 8 && (below b 8 && (below c 8 && (decide (a ≤ b) && decide (b ≤ c))))
def sgFits (s : Sg) (b m : Int) : Bool := brFits s.r1 s.r2 s.r3 && (riFits s.ri && (below s.ga (s.rs.length + 1) && (decide (s.ws.length ≤ 16) && (decide (s.rs.length ≤ 24) && (s.ws.all (wdFits · b m) && s.rs.all (rowFits · m))))))
def opsA : List Str := ["set", "add", "zero", "go"]
def opsB : List Str := ["load", "store"]
def opsC : List Str := ["fetch", "keep", "move"]
theorem ops_all : ∀ w ∈ opsL, (inV (.str w) (opsA.map V.str) = true → formOf w = some ("n" : Str)) ∧ (inV (.str w) (opsA.map V.str) = false → (inV (.str w) (opsB.map V.str) = true → formOf w = some ("pn" : Str)) ∧ (inV (.str w) (opsB.map V.str) = false → (inV (.str w) (opsC.map V.str) = true → formOf w = some ("ppn" : Str)) ∧ (inV (.str w) (opsC.map V.str) = false → (w = "aim" → formOf w = some ("psn" : Str)) ∧ (w ≠ "aim" → (w = "return" → formOf w = some ("" : Str)) ∧ (w ≠ "return" → formOf w = some ("p" : Str)))))) := by decide +kernel
/-- an item of a written list of texts at an open place -/
theorem at_str {l : List Str} {r : Int} (h0 : 0 ≤ r) (h1 : r < l.length) : ∃ w, w ∈ l ∧ atI (l.map V.str) r = some (.str w) := by
  have e : r = ((r.toNat : Nat) : Int) := by omega
  have hl : r.toNat < l.length := by omega
  refine ⟨l[r.toNat], List.getElem_mem hl, ?_⟩
  refine at_of e ?_
  rw [List.getElem?_map, List.getElem?_eq_getElem (by omega)]
  simp
theorem at_two {x y : V} {r : Int} (h0 : 0 ≤ r) (h1 : r < 2) : atI [x, y] r = some (if r = 0 then x else y) := by
  have : r = 0 ∨ r = 1 := by omega
  rcases this with rfl | rfl <;> rfl
theorem wds_all {H : Hp} : ∀ {ws : List Wd} {vs : List V}, RpAll H vs (ws.map Wd.d) → vs.length = ws.length := fun h => by rw [h.length, List.length_map]
/-! ### a comprehension of drawn things -/
def GenL (t g D : Addr) (H1 : Hp) (n0 c : Nat) (Pd : PyData → Prop) (i : Nat) (H' : Hp) : Prop :=
  ∃ (vs : List V) (ds : List PyData), H' D = some (.lst vs) ∧ RpAll H' vs ds ∧ ds.length = i ∧ (∀ d ∈ ds, Pd d) ∧ Tray H' t g (n0 + c * i) ∧ Kp t g H1 H'
theorem GenL.start {t g D : Addr} {H1 : Hp} {n0 c : Nat} {Pd : PyData → Prop} (T : Tray H1 t g n0) (hD : H1 D = none) : GenL t g D H1 n0 c Pd 0 (upd H1 D (.lst [])) :=
  ⟨[], [], upd_same, .nil, rfl, fun _ h => (nomatch h), (T.new hD).mono (by omega), Kp.new hD⟩
theorem GenL.tray {t g D : Addr} {H1 H2 : Hp} {n0 c i : Nat} {Pd : PyData → Prop} (h : GenL t g D H1 n0 c Pd i H2) : Tray H2 t g (n0 + c * i) := by
  obtain ⟨_, _, _, _, _, _, T, _⟩ := h
  exact T
theorem GenL.step {t g D : Addr} {H1 H2 H4 : Hp} {n0 c i n : Nat} {Pd : PyData → Prop} {y : V} {d : PyData} (h : GenL t g D H1 n0 c Pd i H2) (T1 : Tray H1 t g n0) (hD : H1 D = none) (hi : i ≤ 1000) (T : Tray H4 t g n) (hn : n ≤ n0 + c * i + c) (k : Kp t g H2 H4) (r : Rp H4 y d) (p : Pd d) :
    ∃ acc, H4 D = some (.lst acc) ∧ acc.length < sizeLine ∧ GenL t g D H1 n0 c Pd (i + 1) (upd H4 D (.lst (acc ++ [y]))) := by
  obtain ⟨vs, ds, e, ra, hl, hp, T2, k2⟩ := h
  have e4 : H4 D = some (.lst vs) := k D _ e (T1.net hD) (T1.neg hD)
  have tk : Tk H2 (upd H4 D (.lst (vs ++ [y]))) := (k.tk T2).trans (Tk.lst e4)
  refine ⟨vs, e4, by rw [ra.length, hl]; exact small1000 hi, vs ++ [y], ds ++ [d], upd_same, (ra.keep tk).append (.cons (r.keep (Tk.lst e4)) .nil), by simp [hl], fun z hz => ?_, (T.put (T1.net hD) (T1.neg hD)).mono (by rw [Nat.mul_succ]; omega), (k2.trans k).put hD⟩
  rcases List.mem_append.mp hz with q | q
  · exact hp z q
  · rw [List.mem_singleton.mp q]
    exact p
theorem map_of {α : Type} {f : α → PyData} {Pp : α → Prop} : ∀ (ds : List PyData), (∀ d ∈ ds, ∃ x, d = f x ∧ Pp x) → ∃ xs : List α, ds = xs.map f ∧ ∀ x ∈ xs, Pp x
  | [], _ => ⟨[], rfl, fun _ h => (nomatch h)⟩
  | d :: ds, h => by
    obtain ⟨x, e, p⟩ := h d (List.mem_cons_self ..)
    obtain ⟨xs, e2, p2⟩ := map_of ds fun z hz => h z (List.mem_cons_of_mem _ hz)
    refine ⟨x :: xs, by rw [e, e2]; rfl, fun z hz => ?_⟩
    rcases List.mem_cons.mp hz with q | q
    · rw [q]
      exact p
    · exact p2 z q
def SgForm (s : Sg) : Prop := ∀ r ∈ s.rs, RwForm r
/-- three sorted numbers -/
theorem three_sorted {ns ns' : List Int} (hl : ns.length = 3) (hp : ns'.Perm ns) (hs : ns'.Pairwise (· ≤ ·)) : ∃ a b c, ns' = [a, b, c] ∧ a ≤ b ∧ b ≤ c ∧ a ∈ ns ∧ b ∈ ns ∧ c ∈ ns := by
  have h3 : ns'.length = 3 := hp.length_eq.trans hl
  match ns', h3, hs, hp with
  | [a, b, c], _, hs, hp =>
    rw [List.pairwise_cons, List.pairwise_cons] at hs
    exact ⟨a, b, c, rfl, hs.1 b (by simp), hs.2.1 c (by simp), hp.mem_iff.mp (by simp), hp.mem_iff.mp (by simp), hp.mem_iff.mp (by simp)⟩
/-- an item of a written list of ints at an open place -/
theorem at_int {l : List Int} {r : Int} (h0 : 0 ≤ r) (h1 : r < l.length) : ∃ w, w ∈ l ∧ atI (l.map V.int) r = some (.int w) := by
  have e : r = ((r.toNat : Nat) : Int) := by omega
  have hl : r.toNat < l.length := by omega
  refine ⟨l[r.toNat], List.getElem_mem hl, ?_⟩
  refine at_of e ?_
  rw [List.getElem?_map, List.getElem?_eq_getElem (by omega)]
  simp
/-! ### a comprehension of things that are told by what is walked -/
def CompL {β : Type} (D : Addr) (H1 : Hp) (xs : List β) (f : β → V) (i : Nat) (H' : Hp) : Prop := H' D = some (.lst ((xs.take i).map f)) ∧ Same H1 H'
theorem CompL.start {β : Type} {D : Addr} {H1 : Hp} {xs : List β} {f : β → V} (hD : H1 D = none) : CompL D H1 xs f 0 (upd H1 D (.lst [])) := ⟨upd_same, same_upd hD⟩
theorem take_snoc {β : Type} {xs : List β} {i : Nat} {b : β} (h : xs[i]? = some b) : xs.take (i + 1) = xs.take i ++ [b] := by
  rw [List.take_add_one, h]
  rfl
theorem CompL.step {β : Type} {D : Addr} {H1 H2 H4 : Hp} {xs : List β} {f : β → V} {i : Nat} {b : β} {y : V} (h : CompL D H1 xs f i H2) (hD : H1 D = none) (hi : i ≤ 1000) (hb : xs[i]? = some b) (k : Same H2 H4) (e : y = f b) :
    ∃ acc, H4 D = some (.lst acc) ∧ acc.length < sizeLine ∧ CompL D H1 xs f (i + 1) (upd H4 D (.lst (acc ++ [y]))) := by
  obtain ⟨h1, s1⟩ := h
  refine ⟨_, k _ _ h1, ?_, ?_, fun c o q => ?_⟩
  · rw [List.length_map, List.length_take]
    exact small1000 (by omega)
  · rw [upd_same, take_snoc hb, List.map_append, e]
    rfl
  · rw [upd_ne (ne_of_none q hD)]
    exact k _ _ (s1 _ _ q)
theorem CompL.end {β : Type} {D : Addr} {H1 H2 : Hp} {xs : List β} {f : β → V} {n : Nat} (h : CompL D H1 xs f n H2) (hn : n = xs.length) : H2 D = some (.lst (xs.map f)) := by
  subst hn
  have := h.1
  rwa [List.take_length] at this
/-- all([..]) of truths -/
theorem rd_all {β : Type} {K : PySem.W.Frag} {H : Hp} {Q : VK} {D : Addr} {xs : List β} {f : β → Bool} (h : H D = some (.lst (xs.map fun x => V.bl (f x)))) (q : Q (.bl (xs.all f)) H) : rAll K [.ref D] H Q := by
  refine ⟨D, xs.map f, rfl, SqL.of ?_, ?_⟩
  · rw [h, List.map_map]
    rfl
  · rw [List.all_map]
    exact q
theorem fits_zip : ∀ (cs : List Nat) (ns : List Int) (m : Int), (cs.zip ns).all (fun p => numFits p.1 p.2 m) = fitsNs cs ns m
  | [], _, _ => by unfold fitsNs; rfl
  | _ :: _, [], _ => rfl
  | c :: cs, n :: ns, m => by
    rw [List.zip_cons_cons, List.all_cons, fits_zip cs ns m]
    rfl
/-- zip(text, tuple) -/
theorem walk_zipS {K : PySem.W.Frag} {x : Str} {b : Addr} {ys : List V} {n : Nat} (hn : n = min x.cps.size ys.length) : Walk (ItzS K x b) n (fun H => SqT K H b ys) (YPair (fun i => (x.cps[i]?).map fun c => V.str ⟨#[c]⟩) (fun i => ys[i]?)) := by
  subst hn
  refine ⟨fun i H hi q => ?_, fun H q => ⟨ys, q, rfl⟩, fun i H v H' hi q y => ?_⟩
  · have h1 : i < x.cps.size := by omega
    have h2 : i < ys.length := by omega
    exact ⟨ys, x.cps[i], ys[i], q, by simp [h1], by simp [h2]⟩
  · obtain ⟨T, c, z, h1, h2, h3, h4, h5⟩ := y
    exact ⟨T, _, z, h1, h2, h3, by show (x.cps[i]?).map _ = _; rw [h4]; rfl, h5 ys q⟩
/-! ### more steps -/
theorem rd_ifnT {A B : Prop} (h : B) : if (!true) = true then A else B := iteF h
theorem rd_ifnF {A B : Prop} (h : A) : if (!false) = true then A else B := iteT h
section
variable {σ : L2.St} {H : Hp} {Q : VK} {K : PySem.W.Frag} {R : L2.St → Hp → Prop}
theorem rd_izipS {ta : TA} {R : It → Hp → Prop} (h : ta σ H fun vs H1 => ∃ (x : PySem.Str) (b : Addr) (ys : List V), vs = [.str x, .ref b] ∧ SqT K H1 b ys ∧ R (ItzS K x b) H1) : iZipS K ta σ H R := h
theorem rd_ienum {ta : TA} {R : It → Hp → Prop} (h : ta σ H fun vs H1 => ∃ a xs, vs = [.ref a] ∧ SqL K H1 a xs ∧ R (Ite K a) H1) : iEnum K ta σ H R := h
theorem rd_ixT0 {p : Addr} {x : V} {xs : List V} (h : H p = some (.tup (x :: xs))) (q : Q x H) : rIxT K (.ref p) (.int 0) H Q := ⟨p, x :: xs, 0, x, rfl, rfl, SqT.of h, atI_nat (j := 0) rfl, q⟩
theorem rd_gtup {n : Nat} {t : TGs} {a : Addr} {xs : List V} (h : H a = some (.tup xs)) (hl : xs.length = n) (q : t xs σ H R) : gTup K n t (.ref a) σ H R := ⟨a, xs, rfl, SqT.of h, hl, q⟩
theorem rd_gcons {t : TG} {u : TGs} {v : V} {r : List V} (q : t v σ H fun σ' H' => u r σ' H' R) : gCons t u (v :: r) σ H R := ⟨v, r, rfl, q⟩
theorem rd_gnil (q : R σ H) : gNil [] σ H R := ⟨rfl, q⟩
theorem rd_part {te : TE} {S : Option Int → Hp → Prop} (h : te σ H fun x H1 => ∃ i, x = .int i ∧ S (some i) H1) : tPart te σ H S := h
theorem rd_nopart {S : Option Int → Hp → Prop} (h : S none H) : tNoPart σ H S := h
theorem rd_cut1 {p : Addr} {x : V} {xs : List V} (h : H p = some (.tup (x :: xs))) (q : ∀ p', H p' = none → Q (.ref p') (upd H p' (.tup xs))) : rSlT K (.ref p) (some 1) none H Q := by
  refine ⟨p, x :: xs, rfl, SqT.of h, ?_, fun p' hp' => ?_⟩
  · rintro ⟨h1, _⟩
    simp [HT.sIx] at h1
  · have e : cutV (x :: xs) (some 1) none = xs := by
      unfold cutV
      simp [HT.sIx]
    rw [e]
    exact q p' hp'
end
/-- ROW_FORMS -/
def GFo (K : PySem.W.Frag) (w : World) (mg : Str → Option Value) : Prop := ∃ a, mg "ROW_FORMS" = some (.ref a) ∧ KIsD K a ∧ ∀ z l, formOf z = some l → KGot K w a z (some (.str l))
def tFo (K : PySem.W.Frag) (w : World) : TE := fun _ H Q => ∀ a, KIsD K a → (∀ z l, formOf z = some l → KGot K w a z (some (.str l))) → Q (.ref a) H
theorem pe_fo {X : Cx} {pos : Pos} (h : GFo X.K X.w X.mg) (hg : Gl X "ROW_FORMS") : PE X (.Name "ROW_FORMS" pos) (tFo X.K X.w) := by
  obtain ⟨a, e, q1, q2⟩ := h
  have p : PE X (.Name "ROW_FORMS" pos) (tC (.ref a)) := pe_glob hg e rfl
  exact ⟨fun pins s σ H Q I hw => p.run pins s σ H Q I (hw a q1 q2)⟩
theorem rd_fo {K : PySem.W.Frag} {w : World} {ty : TE} {σ : L2.St} {H : Hp} {Q : VK} (h : ty σ H fun y H2 => ∃ z l, y = .str z ∧ formOf z = some l ∧ Q (.str l) H2)
    (mono : ∀ R R' : VK, (∀ v H, R v H → R' v H) → ty σ H R → ty σ H R') : tKGet K w (tFo K w) ty σ H Q := fun a k1 k2 => by
  refine ⟨a, rfl, k1, mono _ _ (fun v H2 q => ?_) h⟩
  obtain ⟨z, l, e1, e2, q⟩ := q
  exact ⟨z, some (.str l), e1, k2 z l e2, q⟩
theorem form_len {l : Str} {w : Str} (h : formOf w = some l) : l.length ≤ 3 := by
  have : ∀ p ∈ rowForms, p.2.length ≤ 3 := by decide +kernel
  have hm : (w, l) ∈ rowForms := by
    have e : rowForms.lookup w = some l := h
    have : ∀ (L : List (Str × Str)) w l, L.lookup w = some l → (w, l) ∈ L := by
      intro L
      induction L with
      | nil => intro w l e; cases e
      | cons p L ih =>
        intro w l e
        rw [List.lookup_cons] at e
        by_cases hw : (w == p.1) = true
        · rw [hw] at e
          simp at e
          have : w = p.1 := by simpa using hw
          subst this
          subst e
          exact List.mem_cons_self ..
        · simp only [hw] at e
          exact List.mem_cons_of_mem _ (ih w l e)
    exact this _ w l e
  exact this _ hm
/-! ### data that may be compared -/
theorem DpAll.length {K : PySem.W.Frag} {H : Hp} : ∀ {ds : List PyData} {vs : List V}, DpAll K H vs ds → vs.length = ds.length
  | _, _, .nil => rfl
  | _, _, .cons _ t => congrArg Nat.succ (DpAll.length t)
theorem DpAll.get2 {K : PySem.W.Frag} {H : Hp} : ∀ {ds : List PyData} {vs : List V} {i : Nat} {d : PyData}, DpAll K H vs ds → ds[i]? = some d → ∃ v, vs[i]? = some v ∧ Dp K H v d
  | _, _, _, _, .nil, e => by simp at e
  | _, _, 0, _, .cons h _, e => by
    simp at e
    subst e
    exact ⟨_, rfl, h⟩
  | _, _, i + 1, _, .cons _ t, e => by
    obtain ⟨d, h1, h2⟩ := DpAll.get2 (i := i) t (by simpa using e)
    exact ⟨d, by simpa using h1, h2⟩
theorem Dp.lst_inv {K : PySem.W.Frag} {H : Hp} {v : V} {ds : List PyData} (h : Dp K H v (.list ds)) : ∃ a xs, v = .ref a ∧ SqL K H a xs ∧ DpAll K H xs ds := by
  cases h with
  | lst a b => exact ⟨_, _, rfl, a, b⟩
theorem Dp.tup_inv {K : PySem.W.Frag} {H : Hp} {v : V} {ds : List PyData} (h : Dp K H v (.tuple ds)) : ∃ a xs, v = .ref a ∧ SqT K H a xs ∧ DpAll K H xs ds := by
  cases h with
  | tup a b => exact ⟨_, _, rfl, a, b⟩
theorem tyT {K : PySem.W.Frag} {H : Hp} {a : Addr} {xs : List V} (h : SqT K H a xs) : TyX K H (.ref a) (.type "tuple") := by
  rcases h with (h | ⟨o, h⟩) | ⟨o, its, n, h1, h2, _⟩
  · exact .base (.tup h)
  · exact .fTuple h
  · exact .kTuple h1 h2
theorem tyL {K : PySem.W.Frag} {H : Hp} {a : Addr} {xs : List V} (h : SqL K H a xs) : TyX K H (.ref a) (.type "list") := by
  rcases h with (h | ⟨o, h⟩) | ⟨o, its, n, h1, h2, _⟩
  · exact .base (.lst h)
  · exact .base (.frz h)
  · exact .kList h1 h2
/-- data of at most so many levels, no dict, no list above a million -/
def okN : Nat → PyData → Prop
  | 0, _ => False
  | _ + 1, .none => True
  | _ + 1, .bool _ => True
  | _ + 1, .int _ => True
  | _ + 1, .str _ => True
  | j + 1, .list ds => ds.length ≤ 1000000 ∧ ∀ e ∈ ds, okN j e
  | j + 1, .tuple ds => ds.length ≤ 1000000 ∧ ∀ e ∈ ds, okN j e
  | _ + 1, .dict _ => False
theorem ok_int (n : Int) (j : Nat) : okN (j + 1) (.int n) := trivial
theorem ok_str (n : Str) (j : Nat) : okN (j + 1) (.str n) := trivial
theorem ok_ints (ns : List Int) (j : Nat) : ∀ e ∈ ns.map PyData.int, okN (j + 1) e := fun e he => by
  obtain ⟨n, _, rfl⟩ := List.mem_map.mp he
  trivial
theorem Wd.ok (x : Wd) : okN 2 x.d := by
  cases x with
  | num n => exact ⟨by show 2 ≤ 1000000; decide, fun e he => by rcases List.mem_cons.mp he with rfl | he; exact trivial; rcases List.mem_cons.mp he with rfl | he; exact trivial; cases he⟩
  | ptr r s p => exact ⟨by show 4 ≤ 1000000; decide, fun e he => by
      rcases List.mem_cons.mp he with rfl | he; exact trivial
      exact ok_ints [r, s, p] 0 e he⟩
theorem Rw.ok {x : Rw} (h : RwForm x) : okN 2 x.d := by
  obtain ⟨l, h1, h2⟩ := h
  have := form_len h1
  have e : l.length = l.cps.size := rfl
  refine ⟨?_, fun e he => ?_⟩
  · rw [List.length_cons, List.length_map]
    omega
  · rcases List.mem_cons.mp he with rfl | he
    · trivial
    · exact ok_ints x.ns 0 e he
theorem Sg.ok {x : Sg} (h : SgForm x) (l1 : x.ws.length ≤ 1000000) (l2 : x.rs.length ≤ 1000000) : okN 4 x.d := by
  refine ⟨by show 5 ≤ 1000000; decide, fun e he => ?_⟩
  rcases List.mem_cons.mp he with rfl | he
  · exact ⟨by show 3 ≤ 1000000; decide, ok_ints [x.r1, x.r2, x.r3] 1⟩
  rcases List.mem_cons.mp he with rfl | he
  · trivial
  rcases List.mem_cons.mp he with rfl | he
  · trivial
  rcases List.mem_cons.mp he with rfl | he
  · refine ⟨by rw [List.length_map]; exact l1, fun e he => ?_⟩
    obtain ⟨n, _, rfl⟩ := List.mem_map.mp he
    exact n.ok
  rcases List.mem_cons.mp he with rfl | he
  · refine ⟨by rw [List.length_map]; exact l2, fun e he => ?_⟩
    obtain ⟨n, hn, rfl⟩ := List.mem_map.mp he
    exact Rw.ok (h n hn)
  cases he
def spAlike (K : PySem.W.Frag) (j : Nat) : Sp := fun vs H Q _ => ∃ (x y : V) (d : PyData), vs = [x, y] ∧ Dp K H x d ∧ Dp K H y d ∧ okN j d ∧ Q (.bl true) H
theorem rd_ixLs {K : PySem.W.Frag} {H : Hp} {Q : VK} {p : Addr} {xs : List V} {i : Int} {v : V} (h : SqL K H p xs) (e : atI xs i = some v) (q : Q v H) : rIx K (.ref p) (.int i) H Q := .inl ⟨p, xs, i, v, rfl, rfl, h, e, q⟩
theorem rd_ixTs {K : PySem.W.Frag} {H : Hp} {Q : VK} {p : Addr} {xs : List V} {i : Int} {v : V} (h : SqT K H p xs) (e : atI xs i = some v) (q : Q v H) : rIx K (.ref p) (.int i) H Q := .inr (.inl ⟨p, xs, i, v, rfl, rfl, h, e, q⟩)
end Rg

/-! methods, the class Machine -/
namespace Rg
open PySem PySem.Spec L2
structure Mth (P : Program) (w : World) (K : PySem.W.Frag) (mg : Str → Option Value) (base : Heap) (C : Addr) (m : Str) (k : Nat) (ps : List Str) (sp : Sp) : Prop where
  ex : ∃ (f : Addr) (fd : FuncData), Meth K C m f ∧ Binds K fd ps [] ∧ FnOk P w K mg base CX0 k f fd ps sp
section
variable {X : Cx} {C : Addr} {k : Nat} {ps : List Str} {sp : Sp} {m : Str} {pos apos : Pos} {e o : Expr} {es : List Expr} {t : TA} {ta : TE}
theorem pe_mth {pl : Sem Bool} (M : Mth X.prog X.w X.K X.mg X.base C m k ps sp) (c : Cls X.K C) (hr : Room k X.A) (he : PE X o ta) (ha : PA X (e :: es) t)
    (hst : starEach (e :: es) X.env = (false, eval e X.env) :: starEach es X.env := by rfl) (hpl : (backTo pos (starEach es X.env)).any (·.1) = false := by rfl)
    (ht : eval (.Call (.Attribute o m apos) (e :: es) [] pos) X.env = (do
      let ov ← eval o X.env
      standAt apos.atName
      let (f, first) ← holding [ov] (getMethod ov m pl)
      callWith pos f first (backTo pos (starEach (e :: es) X.env)) (backToKw pos (keywordEach [] X.env))) := by rfl) :
    PE X (.Call (.Attribute o m apos) (e :: es) [] pos) (tMeth C m sp [] E0 ta t) := by
  obtain ⟨f, fd, hm, hb, F⟩ := M.ex
  exact pe_meth he c hm F hr hb .nil pass0 ha hst hpl ht
theorem pe_mth0 {pl : Sem Bool} (M : Mth X.prog X.w X.K X.mg X.base C m k ps sp) (c : Cls X.K C) (hr : Room k X.A) (he : PE X o ta)
    (ht : eval (.Call (.Attribute o m apos) [] [] pos) X.env = (do
      let ov ← eval o X.env
      standAt apos.atName
      let (f, first) ← holding [ov] (getMethod ov m pl)
      callWith pos f first (backTo pos (starEach [] X.env)) (backToKw pos (keywordEach [] X.env))) := by rfl) :
    PE X (.Call (.Attribute o m apos) [] [] pos) (tMeth C m sp [] E0 ta tNil) := by
  obtain ⟨f, fd, hm, hb, F⟩ := M.ex
  exact pe_meth0 he c hm F hr hb .nil pass0 ht
/-- len(o) by an own __len__ -/
theorem cr_len (M : Mth X.prog X.w X.K X.mg X.base C "__len__" k ps sp) (hr : Room (k + 1) X.A) : CallR X (.builtin "len") (rLenO C sp E0) := by
  obtain ⟨f, fd, hm, hb, F⟩ := M.ex
  exact call_lenO hm F hr hb pass0
end
section
variable {σ : L2.St} {H : Hp} {Q : VK} {K : PySem.W.Frag} {D : Ends}
theorem rd_ixL0 {p : Addr} {x : V} {xs : List V} (h : H p = some (.lst (x :: xs))) (q : Q x H) : rIxL K (.ref p) (.int 0) H Q := ⟨p, x :: xs, 0, x, rfl, rfl, SqL.of h, atI_nat (j := 0) rfl, q⟩
theorem rd_fld {ta : TE} {f : Str} (h : ta σ H fun x H1 => ∃ a C dx fs v, x = .ref a ∧ H1 a = some (.ins C dx fs) ∧ Cls K C ∧ NoAttr K C f ∧ fs.lookup f = some v ∧ Q v H1) : tFld K ta f σ H Q := h
theorem rd_sfld {ta tv : TE} {f : Str} (h : tv σ H fun y H1 => ta σ H1 fun x H2 => ∃ a C dx fs, x = .ref a ∧ H2 a = some (.ins C dx fs) ∧ Cls K C ∧ NoAttr K C f ∧ fs.length < 1000 ∧ D.nx σ (upd H2 a (.ins C dx (putF f y fs)))) : sFld K ta tv f D σ H := h
theorem rd_meth {C : Addr} {m : Str} {sp : Sp} {dvs : List V} {E : XK} {ta : TE} {t : TA} (h : ta σ H fun x H1 => ∃ a dx fs, x = .ref a ∧ H1 a = some (.ins C dx fs) ∧ fs.lookup m = none ∧ t σ H1 fun vs H2 => sp (x :: (vs ++ dvs)) H2 Q E) : tMeth C m sp dvs E ta t σ H Q := h
theorem rd_make {C : Addr} {sp : Sp} {dvs : List V} {E : XK} {t : TA} (h : t σ H fun vs H1 => ∀ x dx, H1 x = none → H1 dx = none → dx ≠ x → sp (.ref x :: (vs ++ dvs)) (upd (upd H1 dx (.own x)) x (.ins C dx [])) (fun v H2 => v = .non ∧ Q (.ref x) H2) E) : tMake C sp dvs E t σ H Q := h
theorem rd_makeK {C : Addr} {n m : Nat} {sp : Sp} {gV : List V → List V → List V} {E : XK} {t tk : TA} (h : t σ H fun vs H1 => tk σ H1 fun zs H2 => vs.length = n ∧ zs.length = m ∧ ∀ x dx, H2 x = none → H2 dx = none → dx ≠ x →
  sp (gV (.ref x :: vs) zs) (upd (upd H2 dx (.own x)) x (.ins C dx [])) (fun v H3 => v = .non ∧ Q (.ref x) H3) E) : tMakeK C n m sp gV E t tk σ H Q := h
end
/-! ### rules that name K -/
def rLenS (K : PySem.W.Frag) : List V → Hp → VK → Prop := fun xs H Q => ∃ p ys, xs = [.ref p] ∧ (SqL K H p ys ∨ SqT K H p ys) ∧ Q (.int ys.length) H
def rTupOf (K : PySem.W.Frag) : List V → Hp → VK → Prop := fun xs H Q => ∃ p ys, xs = [.ref p] ∧ ((SqL K H p ys ∧ ∀ l, H l = none → Q (.ref l) (upd H l (.tup ys))) ∨ (SqT K H p ys ∧ Q (.ref p) H))
def rListOf (K : PySem.W.Frag) : List V → Hp → VK → Prop := fun xs H Q => ∃ p ys, xs = [.ref p] ∧ (SqL K H p ys ∨ SqT K H p ys) ∧ ∀ l, H l = none → Q (.ref l) (upd H l (.lst ys))
section
variable {X : Cx} {K : PySem.W.Frag}
theorem cr_lenS (h : X.K = K := by rfl) : CallR X (.builtin "len") (rLenS K) := by subst h; exact call_len_seq
theorem cr_tupOf (h : X.K = K := by rfl) : CallR X (.type "tuple") (rTupOf K) := by subst h; exact call_tuple_of
theorem cr_listOf (h : X.K = K := by rfl) : CallR X (.type "list") (rListOf K) := by subst h; exact call_list_of
theorem pe_fldK {e : Expr} {f : Str} {pos : Pos} {ta : TE} (he : PE X e ta) (hb : attributeBase e f X.env (eval e X.env) = eval e X.env) (h : X.K = K := by rfl) : PE X (.Attribute e f pos) (tFld K ta f) := by subst h; exact pe_fld he hb
theorem ps_fldK {o value : Expr} {f : Str} {pos pos' : Pos} {ta tv : TE} (ha : PE X o ta) (hv : PE X value tv) (hs : swapsWith value (some (.Attribute o f pos')) pos.line X.env = pure false) (h : X.K = K := by rfl) : PS X (.Assign [.Attribute o f pos'] value pos) (sFld K ta tv f) := by subst h; exact ps_fld ha hv hs
end
/-- a machine's fields -/
def mFlds (q : Addr) (b : Int) : List (Str × V) := putF "base" (.int b) (putF "segments" (.ref q) [])
theorem mFlds_s (q : Addr) (b : Int) : (mFlds q b).lookup ("segments" : Str) = some (.ref q) := by
  unfold mFlds
  rw [lookup_putF, if_neg (by decide +kernel), lookup_putF, if_pos rfl]
theorem mFlds_b (q : Addr) (b : Int) : (mFlds q b).lookup ("base" : Str) = some (.int b) := by
  unfold mFlds
  rw [lookup_putF, if_pos rfl]
theorem mFlds_no (q : Addr) (b : Int) {m : Str} (h1 : ¬ m = "base") (h2 : ¬ m = "segments") : (mFlds q b).lookup m = none := by
  unfold mFlds
  rw [lookup_putF, if_neg h1, lookup_putF, if_neg h2]
  rfl
/-- the class Machine, as the top leaves it -/
structure MC (K : PySem.W.Frag) (mg : Str → Option Value) (C : Addr) : Prop where
  cl : Cls K C
  nS : NoAttr K C "segments"
  nB : NoAttr K C "base"
  mgC : mg "Machine" = some (.ref C)
/-- a machine stands at x: its segments at q are the items vs -/
structure MAt (C : Addr) (H : Hp) (x : Addr) (vs : List V) (b : Int) : Prop where
  ex : ∃ dx q, H x = some (.ins C dx (mFlds q b)) ∧ H q = some (.tup vs)
theorem MAt.keep {C : Addr} {H H' : Hp} {x : Addr} {vs : List V} {b : Int} (h : MAt C H x vs b) (hx : ∀ o, H x = some o → H' x = some o) (tk : Tk H H') : MAt C H' x vs b := by
  obtain ⟨dx, q, h1, h2⟩ := h
  exact ⟨dx, q, hx _ h1, tk _ _ h2⟩
theorem MAt.same {C : Addr} {H H' : Hp} {x : Addr} {vs : List V} {b : Int} (h : MAt C H x vs b) (s : Same H H') : MAt C H' x vs b := h.keep (fun o => s x o) (Tk.of s)
/-- what __init__ is handed, where it makes a machine -/
def spInit (C : Addr) : Sp := fun vs H Q _ => ∃ (x dx L : Addr) (us : List V) (xs : List Sg) (b : Int), vs = [.ref x, .ref L, .int b] ∧ H x = some (.ins C dx []) ∧ H L = some (.lst us) ∧ RpAll H us (xs.map Sg.d) ∧ 1 ≤ xs.length ∧ xs.length ≤ 8 ∧ 2 ≤ b ∧ (∀ y ∈ xs, SgForm y ∧ sgFits y b xs.length = true) ∧
  ∀ H', MAt C H' x us b → (∀ c o, H c = some o → c ≠ x → H' c = some o) → Q .non H'
def spSegAt (C : Addr) : Sp := fun vs H Q _ => ∃ (x : Addr) (us : List V) (b k : Int) (v : V), vs = [.ref x, .int k] ∧ MAt C H x us b ∧ 0 ≤ k ∧ k < us.length ∧ us[k.toNat]? = some v ∧ Q v H
def spLen (C : Addr) : Sp := fun vs H Q _ => ∃ (x : Addr) (us : List V) (b : Int), vs = [.ref x] ∧ MAt C H x us b ∧ Q (.int us.length) H
theorem sg_small {x : Sg} {b m : Int} (h : sgFits x b m = true) : x.ws.length ≤ 16 ∧ x.rs.length ≤ 24 := by
  unfold sgFits at h
  simp only [Bool.and_eq_true, decide_eq_true_eq] at h
  exact ⟨h.2.2.2.1, h.2.2.2.2.1⟩
/-! ### data that == takes -/
theorem form_mem {w l : Str} (h : formOf w = some l) : (w, l) ∈ rowForms := by
  have e : rowForms.lookup w = some l := h
  have : ∀ (L : List (Str × Str)) w l, L.lookup w = some l → (w, l) ∈ L := by
    intro L
    induction L with
    | nil => intro w l e; cases e
    | cons p L ih =>
      intro w l e
      rw [List.lookup_cons] at e
      by_cases hw : (w == p.1) = true
      · rw [hw] at e
        simp at e
        have : w = p.1 := by simpa using hw
        subst this
        subst e
        exact List.mem_cons_self ..
      · simp only [hw] at e
        exact List.mem_cons_of_mem _ (ih w l e)
  exact this _ w l e
theorem lay_map {α : Type} {f : α → PyData} : ∀ (xs : List α), (∀ x ∈ xs, (f x).canLay0 = true) → PyData.canLayAll0 (xs.map f) = true
  | [], _ => rfl
  | x :: xs, h => by
    show (PyData.canLay0 (f x) && PyData.canLayAll0 (xs.map f)) = true
    rw [h x (List.mem_cons_self ..), lay_map xs fun y hy => h y (List.mem_cons_of_mem _ hy)]
    rfl
theorem Wd.lay (x : Wd) : x.d.canLay0 = true := by
  cases x with
  | num n => show (PyData.canLay0 (.str "num") && (true && true)) = true; decide +kernel
  | ptr r s p => show (PyData.canLay0 (.str "ptr") && PyData.canLayAll0 ([r, s, p].map PyData.int)) = true; rw [lay_map [r, s, p] fun _ _ => rfl]; decide +kernel
theorem Rw.lay {x : Rw} (h : RwForm x) : x.d.canLay0 = true := by
  obtain ⟨l, h1, h2⟩ := h
  have h3 : ∀ p ∈ rowForms, PyData.canLay0 (.str p.1) = true := by decide +kernel
  show (PyData.canLay0 (.str x.op) && PyData.canLayAll0 (x.ns.map PyData.int)) = true
  rw [h3 _ (form_mem h1), lay_map x.ns fun _ _ => rfl]
  rfl
theorem ri_mem {x : Str} (h : riFits x = true) : x ∈ rightsL := by
  unfold riFits inV at h
  rw [List.any_map, List.any_eq_true] at h
  obtain ⟨y, hy, e⟩ := h
  have e' : y = x := by simpa [eqV] using e
  rw [← e']
  exact hy
theorem sg_parts {x : Sg} {b m : Int} (h : sgFits x b m = true) : brFits x.r1 x.r2 x.r3 = true ∧ riFits x.ri = true ∧ below x.ga (x.rs.length + 1) = true ∧ x.ws.length ≤ 16 ∧ x.rs.length ≤ 24 ∧ (∀ y ∈ x.ws, wdFits y b m = true) ∧ ∀ y ∈ x.rs, rowFits y m = true := by
  unfold sgFits at h
  simp only [Bool.and_eq_true, decide_eq_true_eq, List.all_eq_true] at h
  exact h
theorem Sg.lay {x : Sg} {b m : Int} (h : SgForm x) (hf : sgFits x b m = true) : x.d.canLay0 = true := by
  have h3 : ∀ r ∈ rightsL, PyData.canLay0 (.str r) = true := by decide +kernel
  show (PyData.canLayAll0 ([x.r1, x.r2, x.r3].map PyData.int) && (PyData.canLay0 (.str x.ri) && (true && (PyData.canLayAll0 (x.ws.map Wd.d) && (PyData.canLayAll0 (x.rs.map Rw.d) && true))))) = true
  rw [lay_map [x.r1, x.r2, x.r3] fun _ _ => rfl, h3 _ (ri_mem (sg_parts hf).2.1), lay_map x.ws fun y _ => y.lay, lay_map x.rs fun y hy => Rw.lay (h y hy)]
  rfl
theorem depth_ok : ∀ (j : Nat) (d : PyData), okN j d → d.depth ≤ j
  | 0, _, h => h.elim
  | j + 1, .none, _ => Nat.zero_le _
  | j + 1, .bool _, _ => Nat.zero_le _
  | j + 1, .int _, _ => Nat.zero_le _
  | j + 1, .str _, _ => Nat.zero_le _
  | j + 1, .dict _, h => h.elim
  | j + 1, .list ds, h => by
    have : ∀ ds : List PyData, (∀ e ∈ ds, okN j e) → PyData.depthAll ds ≤ j := fun ds => by
      induction ds with
      | nil => intro _; exact Nat.zero_le _
      | cons a r ih =>
        intro h
        have h1 := depth_ok j a (h a (List.mem_cons_self ..))
        have h2 := ih fun e he => h e (List.mem_cons_of_mem _ he)
        show max (PyData.depth a) (PyData.depthAll r) ≤ j
        omega
    show PyData.depthAll ds + 1 ≤ j + 1
    have := this ds h.2
    omega
  | j + 1, .tuple ds, h => by
    have : ∀ ds : List PyData, (∀ e ∈ ds, okN j e) → PyData.depthAll ds ≤ j := fun ds => by
      induction ds with
      | nil => intro _; exact Nat.zero_le _
      | cons a r ih =>
        intro h
        have h1 := depth_ok j a (h a (List.mem_cons_self ..))
        have h2 := ih fun e he => h e (List.mem_cons_of_mem _ he)
        show max (PyData.depth a) (PyData.depthAll r) ≤ j
        omega
    show PyData.depthAll ds + 1 ≤ j + 1
    have := this ds h.2
    omega
theorem shaped_of {j : Nat} {d : PyData} (h1 : d.canLay0 = true) (h2 : okN j d) (hj : j ≤ 64) : SeqAt.shaped d = true := by
  unfold SeqAt.shaped
  rw [h1, decide_eq_true (Nat.le_trans (depth_ok j d h2) hj)]
  rfl
/-- a list of sound segments as data -/
theorem sgs_ok {xs : List Sg} {b m : Int} (hl : xs.length ≤ 1000) (h : ∀ x ∈ xs, SgForm x ∧ sgFits x b m = true) : (∀ d ∈ xs.map Sg.d, okN 4 d) ∧ okN 5 (.list (xs.map Sg.d)) ∧ SeqAt.shaped (.list (xs.map Sg.d)) = true ∧ PyData.eqv (.list (xs.map Sg.d)) (.list (xs.map Sg.d)) = true := by
  have h1 : ∀ d ∈ xs.map Sg.d, okN 4 d := fun d hd => by
    obtain ⟨x, hx, rfl⟩ := List.mem_map.mp hd
    have := sg_small (h x hx).2
    exact Sg.ok (h x hx).1 (by omega) (by omega)
  have h2 : okN 5 (.list (xs.map Sg.d)) := ⟨by rw [List.length_map]; omega, h1⟩
  have h3 : (PyData.list (xs.map Sg.d)).canLay0 = true := lay_map xs fun x hx => Sg.lay (h x hx).1 (h x hx).2
  exact ⟨h1, h2, shaped_of h3 h2 (by decide), SeqAt.eqv_refl _ h3⟩
end Rg

/-! the refusals: raised, let out, caught, asked -/
namespace Rg
open PySem PySem.Spec L2
/-! ### C.m(o, ..): a def read off its class -/
structure UbC (K : PySem.W.Frag) (mg : Str → Option Value) (x : Str) (m : Str) (f : Addr) : Prop where
  ex : ∃ (D : Addr) (mc : Value), mg x = some (.ref D) ∧ PySem.W.specialIn K (.ref D) "__getattribute__" = some (some (.builtin "type.__getattribute__")) ∧ PySem.W.typeIn K (.ref D) = some mc ∧ PySem.W.readsIn K D mc = true ∧ PySem.W.findCls K (.ref D) mc m = some (.val (.ref f)) ∧ PySem.W.keepIn K (.ref f) = true
section
variable {X : Cx} {k : Nat} {ps : List Str} {sp : Sp} {x m : Str} {f : Addr} {fd : FuncData} {p1 p2 pos : Pos} {e : Expr} {es : List Expr} {t : TA}
theorem pe_ubm {pl : Sem Bool} (U : UbC X.K X.mg x m f) (hg : Gl X x) (F : FnOk X.prog X.w X.K X.mg X.base CX0 k f fd ps sp) (hb : Binds X.K fd ps []) (hr : Room k X.A) (ha : PA X (e :: es) t) (hdb : (x == ("__debug__" : Str)) = false := by decide)
    (ht : eval (.Call (.Attribute (.Name x p1) m p2) (e :: es) [] pos) X.env = (do
      let ov ← eval (.Name x p1) X.env
      standAt p2.atName
      let (f, first) ← holding [ov] (getMethod ov m pl)
      callWith pos f first (backTo pos (starEach (e :: es) X.env)) (backToKw pos (keywordEach [] X.env))) := by rfl)
    (he : starEach (e :: es) X.env = (false, eval e X.env) :: starEach es X.env := by rfl) (hpl : (backTo pos (starEach es X.env)).any (·.1) = false := by rfl) :
    PE X (.Call (.Attribute (.Name x p1) m p2) (e :: es) [] pos) (tCall sp [] E0 t) := by
  obtain ⟨D, mc, hm, u1, u2, u3, u4, u5⟩ := U.ex
  refine ⟨fun pins s σ H Q I h => ?_⟩
  refine PySem.W.methodCall_KW (pl := pl) (ld_glob I hg hm ?_ hdb) ht
  obtain ⟨mm, fr⟩ := I.fr
  refine PySem.W.method_of_cls fr I.ok.mod.kin u1 (PySem.W.cls_val fr I.ok.mod.kin u2 u3 u4 rfl ?_)
  refine PySem.W.callWith_K (h₀ := X.base) I.ok.mod.kin u5 (thn (ha.run pos pins _ σ H _ (I.tok _) h) fun us s1 ⟨vs, H1, I1, r, q⟩ => ⟨I1.kIn, ?_⟩) he hpl
  exact run_fn F hr hb .nil pass0 I1 r q
end
/-- what an error may be made with -/
def Rbl (v : V) : Prop := v = .non ∨ ∃ i : Int, v = .int i ∧ i.natAbs.log2 < 1920
/-- {x!r} of None, an int -/
def tFmtX (te : TE) : TE := fun σ H Q => te σ H fun x H1 => Rbl x ∧ ∀ y : Str, y.length ≤ 2000 → Q (.str y) H1
theorem pe_fmtX {X : Cx} {e : Expr} {te : TE} {pos : Pos} (he : PE X e te) : PE X (.FormattedValue e 114 none pos) (tFmtX te) := by
  refine ⟨fun pins s σ H Q I h => ?_⟩
  refine wpAny_FormattedValue_repr (thn (he.run pins s σ H _ I h) fun v s1 ⟨x, H1, I1, r1, hx, q⟩ => ?_)
  rcases hx with rfl | ⟨i, rfl, hi⟩
  · obtain rfl : v = Value.none := r1
    have q' : EP X pins σ Q (Value.str "None" s1.toks) { s1 with toks := s1.toks + 1 } := ⟨.str "None", H1, I1.tok _, ⟨_, rfl⟩, q _ (by decide +kernel)⟩
    exact pyReprObj_none (wpAny_formatField_str q' ⟨.str "None", H1, I1.tok _, ⟨_, rfl⟩, q _ (by decide +kernel)⟩ (by decide +kernel))
  · obtain ⟨t, rfl⟩ := r1
    have l := PyProof.Rows.int_text_len_1921 hi
    have q2 := q (toString i) (Nat.le_trans l (by decide))
    exact pyReprObj_int hi (wpAny_formatField_str ⟨.str (toString i), H1, I1.tok _, ⟨_, rfl⟩, q2⟩ ⟨.str (toString i), H1, I1.tok _, ⟨_, rfl⟩, q2⟩ (int_text_fits hi))
/-- what the errors' __init__ does -/
def spRE (K : PySem.W.Frag) : Sp := fun vs H Q _ => ∃ (a C : Addr) (v : V), vs = [.ref a, v] ∧ Rbl v ∧ OexC K C ∧ PySem.W.findIn K (.ref C) "what" = some none ∧ H a = some (exo a C none) ∧
  ∀ d, H d = none → d ≠ a → Q .non (upd (upd H d (exd d [("what", v)])) a (exo a C (some d)))
/-- a class of errors, made with one value -/
structure Exk (P : Program) (w : World) (K : PySem.W.Frag) (mg : Str → Option Value) (base : Heap) (x : Str) (C : Addr) : Prop where
  oex : OexC K C
  wh : PySem.W.findIn K (.ref C) "what" = some none
  mgx : mg x = some (.ref C)
  xf : XfC K C
  ini : ∃ f fd, PySem.W.findIn K (.ref C) "__init__" = some (some (.ref f)) ∧ PySem.W.typeIn K (.ref f) = some (.type "function") ∧ Binds K fd ["self", "what"] [] ∧ FnOk P w K mg base CX0 2 f fd ["self", "what"] (spRE K)
def tRs (K : PySem.W.Frag) (C : Addr) (W : WX) (te : TE) : TS := fun _ σ H => tMkO C (spRE K) [] (tCons te tNil) σ H fun cls d H' => W cls d σ H'
theorem ps_raisew {X : Cx} {W : WX} {C : Addr} {x : Str} {e : Expr} {te : TE} {p pos pos' : Pos} (E : Exk X.prog X.w X.K X.mg X.base x C) (hc : X.calm = true) (tk : Takes X W) (hr : Room 3 X.A) (hg : Gl X x) (he : PE X e te) (hdb : (x == ("__debug__" : Str)) = false := by decide)
    (hst : starEach [e] X.env = (false, eval e X.env) :: starEach [] X.env := by rfl) (hpl : (backTo pos (starEach [] X.env)).any (·.1) = false := by rfl) : PS X (.Raise (some (.Call (.Name x p) [e] [] pos)) none pos') (tRs X.K C W te) := by
  obtain ⟨f, fd, i1, i2, b, F⟩ := E.ini
  exact ps_raise hc tk (pmk_oex E.oex i1 i2 F hr b .nil pass0 hg E.mgx (pa_cons he pa_nil hst) hdb hst hpl)
section
variable {σ : L2.St} {H : Hp} {Q : VK} {K : PySem.W.Frag} {D : Ends}
theorem rd_rs {C : Addr} {W : WX} {te : TE} (h : te σ H fun v H1 => [v].length ≤ 1000 ∧ ∀ a, H1 a = none → spRE K (.ref a :: ([v] ++ [])) (upd H1 a (exo a C none))
  (fun u H2 => u = .non ∧ ∃ (d : Addr) (fs : List (Str × V)), H2 a = some (exo a C (some d)) ∧ H2 d = some (exd d fs) ∧ H1 d = none ∧ W (.ref C) (some d) σ (upd (del H2 a) d (.xd fs))) (fun _ _ _ => False)) : tRs K C W te D σ H := h
theorem rd_mko {C : Addr} {v : V} {R : Option Addr → Hp → Prop} (T : OexC K C) (hw : PySem.W.findIn K (.ref C) "what" = some none) (hv : Rbl v) (q : ∀ d, H d = none → R (some d) (upd H d (.xd [("what", v)]))) :
    [v].length ≤ 1000 ∧ ∀ a, H a = none → spRE K (.ref a :: ([v] ++ [])) (upd H a (exo a C none)) (fun u H2 => u = .non ∧ ∃ (d : Addr) (fs : List (Str × V)), H2 a = some (exo a C (some d)) ∧ H2 d = some (exd d fs) ∧ H d = none ∧ R (some d) (upd (del H2 a) d (.xd fs))) (fun _ _ _ => False) := by
  refine ⟨by show 1 ≤ 1000; decide, fun a ha => ⟨a, C, v, rfl, hv, T, hw, upd_same, fun d hd ne => ⟨rfl, d, _, upd_same, by rw [upd_ne ne, upd_same], ?_, ?_⟩⟩⟩
  · rw [upd_ne ne] at hd
    exact hd
  · have hd' : H d = none := by rw [upd_ne ne] at hd; exact hd
    have e : upd (del (upd (upd (upd H a (exo a C none)) d (exd d [("what", v)])) a (exo a C (some d))) a) d (.xd [("what", v)]) = upd H d (.xd [("what", v)]) := by
      funext b
      by_cases h1 : b = d
      · rw [h1, upd_same, upd_same]
      · rw [upd_ne h1, upd_ne h1]
        by_cases h2 : b = a
        · rw [h2, del_same, ha]
        · rw [del_ne h2, upd_ne h2, upd_ne h1, upd_ne h2]
    rw [e]
    exact q d hd'
end
/-! ### isinstance of the caught error -/
structure ExI (K : PySem.W.Frag) (D : Addr) : Prop where
  xf : XfC K D
  ha : PySem.W.findIn K (.ref D) "__class__" = some (some (.builtin "object.__class__"))
  hn : PySem.W.specialIn K (.builtin "object.__class__") "__get__" = some (some (.builtin "getset_descriptor.__get__"))
  ht : PySem.W.takesIn K (.builtin "object.__class__") = some true
  hm : PySem.W.mroIn K D (.type "object") = some true
def rIsX (K : PySem.W.Frag) (a : Addr) (cls : Value) (d : Option Addr) : List V → Hp → VK → Prop := fun xs H Q => ∃ (c : V) (D dd : Addr) (fs : List (Str × V)) (cv : Value) (b : Bool), xs = [.ref a, c] ∧ cls = .ref D ∧ d = some dd ∧ H dd = some (.xd fs) ∧ ExI K D ∧ ClsV c cv ∧ PySem.W.kitOne K (.ref D) cv = some b ∧ Q (.bl b) H
def rIsXT (K : PySem.W.Frag) (a : Addr) (cls : Value) (d : Option Addr) : List V → Hp → VK → Prop := fun xs H Q => ∃ (tp D dd : Addr) (cs : List V) (ws : List Value) (fs : List (Str × V)) (b : Bool), xs = [.ref a, .ref tp] ∧ cls = .ref D ∧ d = some dd ∧ H dd = some (.xd fs) ∧ ExI K D ∧ H tp = some (.tup cs) ∧ Paired ClsV cs ws ∧ PySem.W.kitAny K (.ref D) ws = some b ∧ Q (.bl b) H
section
variable {X : Cx} {a : Addr} {oe : Obj} {cls : Value} {d : Option Addr} {pn : List (Addr × Obj)} {K : PySem.W.Frag}
theorem inst_of {pins : List (Addr × Obj)} {σ : L2.St} {H : Hp} {s : Shared} {D dd : Addr} {fs : List (Str × V)} (hz : Zc (.ref D) (some dd) oe) (hf : ∃ vs, oe.data = .fields vs) (I : L2.Inv (X.suite a ((a, oe) :: pn)) pins σ H s) (hx : H dd = some (.xd fs)) : ∃ od, PySem.W.InstAt s.heap a oe D (some od) := by
  obtain ⟨hget, _⟩ := I.pin (a, oe) (List.mem_append.mpr (.inl List.mem_cons_self))
  obtain ⟨vs, hv⟩ := hf
  obtain ⟨mA, ⟨o, _, _, e, _⟩, _⟩ := (show ObjOk X.prog X.w H s.heap dd (.xd fs) from I.hok dd _ hx)
  obtain ⟨oc, od, oda, osl⟩ := oe
  obtain ⟨h1, h2⟩ := hz
  dsimp only at h1 h2 hv
  subst h1 h2 hv
  exact ⟨o, hget, rfl, rfl, e⟩
theorem ExI.cl {D : Addr} (E : ExI K D) : (PySem.W.clsIn K D).isSome = true := by
  have := E.xf.hdC
  obtain ⟨cd, hc, _⟩ := PySem.W.any_some this
  rw [hc]
  rfl
theorem cr_isX (hz : Zc cls d oe) (hf : ∃ vs, oe.data = .fields vs) (hK : X.K = K := by rfl) : CallR (X.suite a ((a, oe) :: pn)) (.builtin "isinstance") (rIsX K a cls d) := by
  subst hK
  intro pins s σ H xs us Q I r h
  obtain ⟨c, D, dd, fs, cv, b, rfl, rfl, rfl, hx, E, k, e, q⟩ := h
  obtain ⟨u1, u2, rfl, r1, r2⟩ := vals2 r
  cases r1
  have e2 := k.eq r2
  subst e2
  obtain ⟨od, J⟩ := inst_of hz hf I hx
  exact PySem.W.kia_one (PySem.W.kitx_exc E.cl E.xf.ga E.xf.gg E.xf.exC E.ha E.hn E.ht E.hm) I.kIn J e (fun z => nomatch z) fun tk => ⟨.bl b, H, I.tok tk, rfl, q⟩
theorem cr_isXT (hz : Zc cls d oe) (hf : ∃ vs, oe.data = .fields vs) (hK : X.K = K := by rfl) : CallR (X.suite a ((a, oe) :: pn)) (.builtin "isinstance") (rIsXT K a cls d) := by
  subst hK
  intro pins s σ H xs us Q I r h
  obtain ⟨tp, D, dd, cs, ws, fs, b, rfl, rfl, rfl, hx, E, hT, k, e, q⟩ := h
  obtain ⟨u1, u2, rfl, r1, r2⟩ := vals2 r
  cases r1
  cases (show u2 = Value.ref tp from r2)
  obtain ⟨od, J⟩ := inst_of hz hf I hx
  obtain ⟨_, its, rv, o, h1, h2, n, h3⟩ := (show ObjOk X.prog X.w H s.heap tp (.tup cs) from I.hok tp _ hT)
  have e3 := ClsV.all k rv
  subst e3
  obtain ⟨oc, od', dt, sl⟩ := o
  simp only at h2 h3
  subst h2 h3
  exact PySem.W.kia_tup (PySem.W.kitx_exc E.cl E.xf.ga E.xf.gg E.xf.exC E.ha E.hn E.ht E.hm) I.kIn J h1 e (fun z => nomatch z) fun tk => ⟨.bl b, H, I.tok tk, rfl, q⟩
end
/-! ### defs that may raise -/
structure CalX (P : Program) (w : World) (K : PySem.W.Frag) (mg : Str → Option Value) (base : Heap) (x : Str) (k : Nat) (ps : List Str) (sp : Sp) : Prop where
  ex : ∃ (f : Addr) (fd : FuncData), mg x = some (.ref f) ∧ PySem.W.keepIn K (.ref f) = true ∧ Binds K fd ps [] ∧ FnOk P w K mg base (L2.CX P w) k f fd ps sp
section
variable {X : Cx} {k : Nat} {ps : List Str} {sp : Sp} {x : Str} {p pos : Pos} {e : Expr} {es : List Expr} {t : TA}
/-- where nothing is let out -/
theorem pass1 : Passes (L2.CX X.prog X.w) X E0 := passes_call takes0 fun _ _ _ _ h => h
theorem pe_calN (C : CalX X.prog X.w X.K X.mg X.base x k ps sp) (hr : Room k X.A) (hg : Gl X x) (ha : PA X (e :: es) t) (hdb : (x == ("__debug__" : Str)) = false := by decide)
    (he : starEach (e :: es) X.env = (false, eval e X.env) :: starEach es X.env := by rfl) (hpl : (backTo pos (starEach es X.env)).any (·.1) = false := by rfl) :
    PE X (.Call (.Name x p) (e :: es) [] pos) (tCall sp [] E0 t) := by
  obtain ⟨f, fd, hm, hk, hb, F⟩ := C.ex
  exact pe_call F hr hg hm hk hb .nil pass1 ha hdb he hpl
/-- in the body of a try -/
theorem pe_calS {W : WX} (C : CalX X.prog X.w X.K X.mg X.base x k ps sp) (tk : Takes X W) (hr : Room k X.A) (hg : Gl X x) (ha : PA X (e :: es) t) (hdb : (x == ("__debug__" : Str)) = false := by decide)
    (he : starEach (e :: es) X.env = (false, eval e X.env) :: starEach es X.env := by rfl) (hpl : (backTo pos (starEach es X.env)).any (·.1) = false := by rfl) :
    PE X (.Call (.Name x p) (e :: es) [] pos) (tCallS sp (WE W) t) := by
  obtain ⟨f, fd, hm, hk, hb, F⟩ := C.ex
  exact pe_callS F hr hg hm hk hb (fun σ => passAt tk σ) ha hdb he hpl
end
theorem rd_callS {sp : Sp} {E : L2.St → XK} {t : TA} {σ : L2.St} {H : Hp} {Q : VK} (h : t σ H fun vs H1 => sp vs H1 Q (E σ)) : tCallS sp E t σ H Q := h
theorem rd_xf {a C dd : Addr} {f : Str} {te : TE} {σ : L2.St} {H : Hp} {Q : VK} (h : te σ H fun x H1 => x = .ref a ∧ ∃ (fs : List (Str × V)) (v : V), H1 dd = some (.xd fs) ∧ fs.lookup f = some v ∧ Q v H1)
    (mono : ∀ R R' : VK, (∀ v H, R v H → R' v H) → te σ H R → te σ H R') : tXf a (.ref C) (some dd) C f te σ H Q := mono _ _ (fun x H1 q => by
  obtain ⟨e, fs, v, h1, h2, q⟩ := q
  exact ⟨e, rfl, dd, fs, v, rfl, h1, h2, q⟩) h
end Rg

/-! data with lists; what a ring may do -/
namespace Rg
open PySem PySem.Spec L2
/-! ### data whose lists all stand in S -/
mutual
inductive DL (S : Addr → Prop) (H : Hp) : V → PyData → Prop
  | non : DL S H .non .none
  | bl (b : Bool) : DL S H (.bl b) (.bool b)
  | int (i : Int) : DL S H (.int i) (.int i)
  | str (x : Str) : DL S H (.str x) (.str x)
  | tup {a : Addr} {xs : List V} {ds : List PyData} : H a = some (.tup xs) → DLs S H xs ds → DL S H (.ref a) (.tuple ds)
  | lst {a : Addr} {xs : List V} {ds : List PyData} : S a → H a = some (.lst xs) → DLs S H xs ds → DL S H (.ref a) (.list ds)
inductive DLs (S : Addr → Prop) (H : Hp) : List V → List PyData → Prop
  | nil : DLs S H [] []
  | cons {v : V} {vs : List V} {d : PyData} {ds : List PyData} : DL S H v d → DLs S H vs ds → DLs S H (v :: vs) (d :: ds)
end
mutual
theorem DL.keep {S S' : Addr → Prop} {H H' : Hp} (tk : Tk H H') (kl : ∀ a xs, S a → H a = some (.lst xs) → S' a ∧ H' a = some (.lst xs)) : ∀ {d : PyData} {v : V}, DL S H v d → DL S' H' v d
  | _, _, .non => .non
  | _, _, .bl b => .bl b
  | _, _, .int i => .int i
  | _, _, .str x => .str x
  | _, _, .tup e h => .tup (tk _ _ e) (DLs.keep tk kl h)
  | _, _, .lst s e h => .lst (kl _ _ s e).1 (kl _ _ s e).2 (DLs.keep tk kl h)
theorem DLs.keep {S S' : Addr → Prop} {H H' : Hp} (tk : Tk H H') (kl : ∀ a xs, S a → H a = some (.lst xs) → S' a ∧ H' a = some (.lst xs)) : ∀ {ds : List PyData} {vs : List V}, DLs S H vs ds → DLs S' H' vs ds
  | _, _, .nil => .nil
  | _, _, .cons h t => .cons (DL.keep tk kl h) (DLs.keep tk kl t)
end
theorem DL.same {S : Addr → Prop} {H H' : Hp} {d : PyData} {v : V} (h : DL S H v d) (s : Same H H') : DL S H' v d := h.keep (Tk.of s) fun a xs q e => ⟨q, s _ _ e⟩
theorem DLs.same {S : Addr → Prop} {H H' : Hp} {d : List PyData} {v : List V} (h : DLs S H v d) (s : Same H H') : DLs S H' v d := h.keep (Tk.of s) fun a xs q e => ⟨q, s _ _ e⟩
mutual
theorem DL.dp {S : Addr → Prop} {K : PySem.W.Frag} {H : Hp} : ∀ {d : PyData} {v : V}, DL S H v d → Dp K H v d
  | _, _, .non => .non
  | _, _, .bl b => .bl b
  | _, _, .int i => .int i
  | _, _, .str x => .str x
  | _, _, .tup e h => .tup (SqT.of e) (DLs.dp h)
  | _, _, .lst _ e h => .lst (SqL.of e) (DLs.dp h)
theorem DLs.dp {S : Addr → Prop} {K : PySem.W.Frag} {H : Hp} : ∀ {ds : List PyData} {vs : List V}, DLs S H vs ds → DpAll K H vs ds
  | _, _, .nil => .nil
  | _, _, .cons h t => .cons (DL.dp h) (DLs.dp t)
end
mutual
theorem Rp.dl {S : Addr → Prop} {H : Hp} : ∀ {d : PyData} {v : V}, Rp H v d → DL S H v d
  | _, _, .non => .non
  | _, _, .bl b => .bl b
  | _, _, .int i => .int i
  | _, _, .str x => .str x
  | _, _, .tup e h => .tup e (RpAll.dl h)
theorem RpAll.dl {S : Addr → Prop} {H : Hp} : ∀ {ds : List PyData} {vs : List V}, RpAll H vs ds → DLs S H vs ds
  | _, _, .nil => .nil
  | _, _, .cons h t => .cons (Rp.dl h) (RpAll.dl t)
end
theorem DLs.append {S : Addr → Prop} {H : Hp} : ∀ {ds es : List PyData} {vs us : List V}, DLs S H vs ds → DLs S H us es → DLs S H (vs ++ us) (ds ++ es)
  | _, _, _, _, .nil, h => h
  | _, _, _, _, .cons a t, h => .cons a (DLs.append t h)
theorem DLs.length {S : Addr → Prop} {H : Hp} : ∀ {ds : List PyData} {vs : List V}, DLs S H vs ds → vs.length = ds.length
  | _, _, .nil => rfl
  | _, _, .cons _ t => congrArg Nat.succ (DLs.length t)
theorem DLs.get2 {S : Addr → Prop} {H : Hp} : ∀ {ds : List PyData} {vs : List V} {i : Nat} {d : PyData}, DLs S H vs ds → ds[i]? = some d → ∃ v, vs[i]? = some v ∧ DL S H v d
  | _, _, _, _, .nil, e => by simp at e
  | _, _, 0, _, .cons h _, e => by
    simp at e
    subst e
    exact ⟨_, rfl, h⟩
  | _, _, i + 1, _, .cons _ t, e => by
    obtain ⟨d, h1, h2⟩ := DLs.get2 (i := i) t (by simpa using e)
    exact ⟨d, by simpa using h1, h2⟩
theorem DL.lst_inv {S : Addr → Prop} {H : Hp} {v : V} {ds : List PyData} (h : DL S H v (.list ds)) : ∃ a xs, v = .ref a ∧ S a ∧ H a = some (.lst xs) ∧ DLs S H xs ds := by
  cases h with
  | lst s a b => exact ⟨_, _, rfl, s, a, b⟩
/-- made between two heaps -/
def New (H0 H1 : Hp) : Addr → Prop := fun a => H0 a = none ∧ H1 a ≠ none
theorem DL.new {H0 H : Hp} {d : PyData} {v : V} (h : DL (fun a => H0 a = none) H v d) : DL (New H0 H) H v d := h.keep (Tk.refl _) fun a xs q e => ⟨⟨q, by rw [e]; exact fun z => nomatch z⟩, e⟩
/-- .. and one place written since, that was there ahead or came behind -/
theorem DL.put {H0 H1 H : Hp} {d : PyData} {v : V} {p : Addr} {o : HO} (h : DL (New H0 H1) H v d) (hp : ∀ xs, H p ≠ some (.tup xs)) (hn : ¬ New H0 H1 p) : DL (New H0 H1) (upd H p o) v d :=
  h.keep (fun b xs e => by rw [upd_ne (fun z => hp xs (by rw [← z]; exact e))]; exact e) fun a xs q e => ⟨q, by rw [upd_ne (fun z => hn (by rw [← z]; exact q))]; exact e⟩
/-! ### comprehensions of data -/
def CompD {β : Type} (D : Addr) (H1 : Hp) (xs : List β) (f : β → PyData) (i : Nat) (H' : Hp) : Prop := ∃ vs, H' D = some (.lst vs) ∧ DLs (fun a => H1 a = none ∧ a ≠ D) H' vs ((xs.take i).map f) ∧ Same H1 H'
theorem CompD.start {β : Type} {D : Addr} {H1 : Hp} {xs : List β} {f : β → PyData} (hD : H1 D = none) : CompD D H1 xs f 0 (upd H1 D (.lst [])) := ⟨[], upd_same, .nil, same_upd hD⟩
theorem CompD.step {β : Type} {D : Addr} {H1 H2 H4 : Hp} {xs : List β} {f : β → PyData} {i : Nat} {b : β} {y : V} (h : CompD D H1 xs f i H2) (hD : H1 D = none) (hi : i ≤ 1000) (hb : xs[i]? = some b) (k : Same H2 H4) (r : DL (fun a => H2 a = none) H4 y (f b)) :
    ∃ acc, H4 D = some (.lst acc) ∧ acc.length < sizeLine ∧ CompD D H1 xs f (i + 1) (upd H4 D (.lst (acc ++ [y]))) := by
  obtain ⟨vs, h1, h2, s1⟩ := h
  have e4 := k _ _ h1
  have kl : ∀ (S : Addr → Prop), (∀ a, S a → H1 a = none ∧ a ≠ D) → ∀ a xs, S a → H4 a = some (.lst xs) → (H1 a = none ∧ a ≠ D) ∧ upd H4 D (.lst (vs ++ [y])) a = some (.lst xs) := fun S hS a xs q e => ⟨hS a q, by rw [upd_ne (hS a q).2]; exact e⟩
  refine ⟨vs, e4, ?_, vs ++ [y], upd_same, ?_, fun c o q => ?_⟩
  · rw [h2.length, List.length_map, List.length_take]
    exact small1000 (by omega)
  · rw [take_snoc hb, List.map_append]
    refine ((h2.same k).keep (Tk.lst e4) (kl _ fun a q => q)).append (.cons (r.keep (Tk.lst e4) (kl _ fun a q => ⟨s1.free q, fun z => ?_⟩)) .nil)
    rw [z, h1] at q
    cases q
  · rw [upd_ne (ne_of_none q hD)]
    exact k _ _ (s1 _ _ q)
theorem CompD.end {β : Type} {D : Addr} {H1 H2 : Hp} {xs : List β} {f : β → PyData} {n : Nat} (h : CompD D H1 xs f n H2) (hD : H1 D = none) (hn : n = xs.length) : DL (fun a => H1 a = none) H2 (.ref D) (.list (xs.map f)) := by
  subst hn
  obtain ⟨vs, h1, h2, _⟩ := h
  rw [List.take_length] at h2
  exact .lst hD h1 (h2.keep (Tk.refl _) fun a xs q e => ⟨q.1, e⟩)
/-! ### what a ring may do -/
def has (c : Nat) (x : Str) : Bool := decide (c ∈ x.cps.toList)
def mRead (s : Sg) (e : Int) : Bool := has 114 s.ri && decide (e ≤ s.r2)
def mWrite (s : Sg) (e : Int) : Bool := has 119 s.ri && decide (e ≤ s.r1)
def mRun (s : Sg) (e : Int) : Bool := has 120 s.ri && (decide (s.r1 ≤ e) && decide (e ≤ s.r2))
def mCall (s : Sg) (e : Int) : Bool := has 120 s.ri && (decide (s.r2 < e) && decide (e ≤ s.r3))
def alD (r : Int) (s : Sg) : PyData := .tuple [.bool (mRead s r), .bool (mWrite s r), .bool (mRun s r), .bool (mCall s r)]
def tabD (xs : List Sg) : PyData := .list ((List.range 8).map fun r => .list (xs.map (alD (r : Nat))))
def spMay (fn : Sg → Int → Bool) : Sp := fun vs H Q _ => ∃ (v : V) (x : Sg) (e : Int), vs = [v, .int e] ∧ Rp H v x.d ∧ ∀ H', Same H H' → Q (.bl (fn x e)) H'
theorem rd_cut2 {K : PySem.W.Frag} {H : Hp} {Q : VK} {p : Addr} {x y z : V} {xs : List V} (h : H p = some (.tup (x :: y :: z :: xs))) (q : ∀ p', H p' = none → Q (.ref p') (upd H p' (.tup [x, y]))) : rSlT K (.ref p) none (some 2) H Q := by
  refine ⟨p, x :: y :: z :: xs, rfl, SqT.of h, ?_, fun p' hp' => ?_⟩
  · rintro ⟨_, h1⟩
    simp [HT.sIx] at h1
  · have e : cutV (x :: y :: z :: xs) none (some 2) = [x, y] := by
      unfold cutV
      have : HT.sIx (x :: y :: z :: xs).length (x :: y :: z :: xs).length (some 2) = 2 := by simp [HT.sIx]
      rw [this]
      simp [HT.sIx]
    rw [e]
    exact q p' hp'
def spAllowed (C NR : Addr) : Sp := fun vs H Q E => ∃ (x : Addr) (us : List V) (xs : List Sg) (b r : Int), vs = [.ref x, .int r] ∧ MAt C H x us b ∧ RpAll H us (xs.map Sg.d) ∧ xs.length ≤ 900 ∧ r.natAbs.log2 < 1920 ∧
  (below r 8 = true → ∀ (L : Addr) (H' : Hp), H L = none → DL (fun a => H a = none) H' (.ref L) (.list (xs.map (alD r))) → Same H H' → Q (.ref L) H') ∧
  (below r 8 = false → ∀ (d : Addr) (H' : Hp), H d = none → H' d = some (.xd [("what", .int r)]) → Same H H' → E (.ref NR) (some d) H')
def spTable (C : Addr) : Sp := fun vs H Q _ => ∃ (x : Addr) (us : List V) (xs : List Sg) (b : Int), vs = [.ref x] ∧ MAt C H x us b ∧ RpAll H us (xs.map Sg.d) ∧ xs.length ≤ 900 ∧ ∀ (L : Addr) (H' : Hp), H L = none → DL (fun a => H a = none) H' (.ref L) (tabD xs) → Same H H' → Q (.ref L) H'
/-- ways that join again -/
theorem rd_join {T : VK → Prop} {Q : VK} (post : VK) (h1 : ∀ R : VK, (∀ v H', post v H' → R v H') → T R) (h2 : ∀ v H', post v H' → Q v H') : T Q := h1 Q h2
/-- .. a truth, the heap as it was -/
theorem rd_joinB {T : VK → Prop} {Q : VK} {H : Hp} (k : Bool) (h1 : ∀ R : VK, R (.bl k) H → T R) (h2 : Q (.bl k) H) : T Q := h1 Q h2
/-! ### calls by names alone -/
theorem kbn_of {K : PySem.W.Frag} {x qual : Str} {st : Stmt} {f : Addr} {fd : FuncData} {ps : List Str} (F : Fun K x qual st f fd) (n : Nat) (ks : List Str) (g : {α : Type} → List α → List α → List α) (hrel : ∀ {vs zs : List V} {us ws : List Value}, Vals vs us → Vals zs ws → Vals (g vs zs) (g us ws))
    (h : ∀ (kV doc pm : Value) (an : Option Addr) (cdv ct : Value) (us ws : List Value), us.length = n → ws.length = ks.length → bindArgs (PySem.W.fnOf x qual (defArgs st) (defBody st) (defScope st) .none kV doc pm an cdv ct) ⟨us, ks.zip ws⟩ = pure (ps.zip (g us ws))) : KBn K fd ps n ks (fun us ws => g us ws) (fun vs zs => g vs zs) := by
  obtain ⟨oc, od, kV, doc, pm, an, cdv, ct, osl, rfl, lk, hcd⟩ := F.ex
  exact ⟨fun s us ws _ l1 l2 => .of_eq (h kV doc pm an cdv ct us ws l1 l2), fun r1 r2 => hrel r1 r2⟩
theorem Vals_rev : ∀ {xs : List V} {us : List Value}, Vals xs us → Vals xs.reverse us.reverse
  | _, _, .nil => .nil
  | _, _, .cons r t => by
    rw [List.reverse_cons, List.reverse_cons]
    exact (Vals_rev t).append (.cons r .nil)
structure CalK (P : Program) (w : World) (K : PySem.W.Frag) (mg : Str → Option Value) (base : Heap) (CX : CXT) (x : Str) (k : Nat) (ps ks : List Str) (gV : List V → List V → List V) (sp : Sp) : Prop where
  ex : ∃ (f : Addr) (fd : FuncData) (g : List Value → List Value → List Value), mg x = some (.ref f) ∧ PySem.W.keepIn K (.ref f) = true ∧ KBn K fd ps 0 ks g gV ∧ FnOk P w K mg base CX k f fd ps sp
section
variable {X : Cx} {CX : CXT} {k : Nat} {f : Addr} {fd : FuncData} {ps ks : List Str} {sp : Sp} {E : XK} {x : Str} {p pos : Pos} {kws : List Keyword} {tk : TA} {g : List Value → List Value → List Value} {gV : List V → List V → List V}
theorem pe_callN0 (F : FnOk X.prog X.w X.K X.mg X.base CX k f fd ps sp) (hr : Room k X.A) (hg : Gl X x) (hm : X.mg x = some (.ref f)) (hk : PySem.W.keepIn X.K (.ref f) = true) (hb : KBn X.K fd ps 0 ks g gV) (hx : Passes CX X E) (hkw : PK X kws tk)
    (hall : (backToKw pos (keywordEach kws X.env)).all (·.1.isSome) = true := by rfl) (hks : (backToKw pos (keywordEach kws X.env)).filterMap (·.1) = ks := by rfl) (hdb : (x == ("__debug__" : Str)) = false := by decide)
    (hpl : ((backTo pos (starEach [] X.env)).any (·.1) || (backToKw pos (keywordEach kws X.env)).any (·.1.isNone)) = false := by rfl) :
    PE X (.Call (.Name x p) [] kws pos) (tCallN 0 ks.length sp gV E tNil tk) := by
  refine ⟨fun pins s σ H Q I h => ?_⟩
  refine wpAny_Call_Name_kw (ld_glob I hg hm ?_ hdb)
  refine PySem.W.callWith_KW0 (h₀ := X.base) I.ok.mod.kin hk hall ?_ hpl
  refine thn (hkw.run pos pins s σ H _ I h) fun ws s2 ⟨zs, H2, I2, rz, l1, l2, q2⟩ => ⟨I2.kIn, ?_⟩
  rw [hks]
  exact run_fnN (us := []) (vs := []) F hr hb hx I2 .nil rz l1 l2 q2
theorem pe_calK0 (C : CalK X.prog X.w X.K X.mg X.base CX x k ps ks gV sp) (hr : Room k X.A) (hg : Gl X x) (hx : Passes CX X E) (hkw : PK X kws tk)
    (hall : (backToKw pos (keywordEach kws X.env)).all (·.1.isSome) = true := by rfl) (hks : (backToKw pos (keywordEach kws X.env)).filterMap (·.1) = ks := by rfl) (hdb : (x == ("__debug__" : Str)) = false := by decide)
    (hpl : ((backTo pos (starEach [] X.env)).any (·.1) || (backToKw pos (keywordEach kws X.env)).any (·.1.isNone)) = false := by rfl) :
    PE X (.Call (.Name x p) [] kws pos) (tCallN 0 ks.length sp gV E tNil tk) := by
  obtain ⟨f, fd, g, hm, hk, hb, F⟩ := C.ex
  exact pe_callN0 F hr hg hm hk hb hx hkw hall hks hdb hpl
end
theorem rd_callN {n m : Nat} {sp : Sp} {gV : List V → List V → List V} {E : XK} {t tk : TA} {σ : L2.St} {H : Hp} {Q : VK} (h : t σ H fun vs H1 => tk σ H1 fun zs H2 => vs.length = n ∧ zs.length = m ∧ sp (gV vs zs) H2 Q E) : tCallN n m sp gV E t tk σ H Q := h
section
variable {X : Cx} {K : PySem.W.Frag} {tg : Expr}
theorem pi_listK {l : Expr} {tl : TE} (hl : PE X l tl) (h : X.K = K := by rfl) : PI X tg l (iList K tl) := by subst h; exact pi_list hl
theorem pi_tupK {l : Expr} {tl : TE} (hl : PE X l tl) (h : X.K = K := by rfl) : PI X tg l (iTup K tl) := by subst h; exact pi_tup hl
end
theorem DL.cons_inv {S : Addr → Prop} {H : Hp} {v : V} {d : PyData} {ds : List PyData} (h : DL S H v (.list (d :: ds))) : ∃ a x xs, v = .ref a ∧ S a ∧ H a = some (.lst (x :: xs)) ∧ DL S H x d ∧ DLs S H xs ds := by
  cases h with
  | lst s a b =>
    cases b with
    | cons p q => exact ⟨_, _, _, rfl, s, a, p, q⟩
theorem DL.tup_inv {S : Addr → Prop} {H : Hp} {v : V} {ds : List PyData} (h : DL S H v (.tuple ds)) : ∃ a xs, v = .ref a ∧ H a = some (.tup xs) := by
  cases h with
  | tup e _ => exact ⟨_, _, rfl, e⟩
theorem al_ok (r : Int) (xs : List Sg) (hl : xs.length ≤ 1000) : okN 3 (.list (xs.map (alD r))) := by
  refine ⟨by rw [List.length_map]; omega, fun e he => ?_⟩
  obtain ⟨x, _, rfl⟩ := List.mem_map.mp he
  refine ⟨by show 4 ≤ 1000000; decide, fun e he => ?_⟩
  simp only [List.mem_cons, List.mem_nil_iff, or_false] at he
  rcases he with rfl | rfl | rfl | rfl <;> trivial
theorem okN_succ : ∀ {j : Nat} {d : PyData}, okN j d → okN (j + 1) d
  | 0, _, h => h.elim
  | j + 1, .none, _ => trivial
  | j + 1, .bool _, _ => trivial
  | j + 1, .int _, _ => trivial
  | j + 1, .str _, _ => trivial
  | j + 1, .dict _, h => h.elim
  | j + 1, .list ds, h => ⟨h.1, fun e he => okN_succ (h.2 e he)⟩
  | j + 1, .tuple ds, h => ⟨h.1, fun e he => okN_succ (h.2 e he)⟩
theorem tab_ok (xs : List Sg) (hl : xs.length ≤ 1000) : okN 4 (tabD xs) := by
  refine ⟨by rw [List.length_map, List.length_range]; decide, fun e he => ?_⟩
  obtain ⟨x, _, rfl⟩ := List.mem_map.mp he
  exact al_ok _ xs hl
/-- what holds of a machine, of the table that is due and of the tray, through the law -/
structure I4 (C t g x Ld : Addr) (us : List V) (xs : List Sg) (b : Int) (n : Nat) (H7 H8 H : Hp) : Prop where
  m : MAt C H x us b
  rp : RpAll H us (xs.map Sg.d)
  due : DL (New H7 H8) H (.ref Ld) (tabD xs)
  T : Tray H t g n
  dom : ∀ c, H c = none → H8 c = none
  ht : H7 t ≠ none ∧ H8 t ≠ none
  hg : H7 g ≠ none ∧ H8 g ≠ none
section
variable {C t g x Ld : Addr} {us : List V} {xs : List Sg} {b : Int} {n m : Nat} {H7 H8 H H' : Hp}
theorem I4.same (I : I4 C t g x Ld us xs b n H7 H8 H) (s : Same H H') : I4 C t g x Ld us xs b n H7 H8 H' :=
  ⟨I.m.same s, I.rp.keep (Tk.of s), I.due.same s, I.T.same s, fun c h => I.dom c (s.free h), I.ht, I.hg⟩
theorem I4.put {p : Addr} {vs ws : List V} (I : I4 C t g x Ld us xs b n H7 H8 H) (hp : H p = some (.lst vs)) (h8 : H8 p = none) : I4 C t g x Ld us xs b n H7 H8 (upd H p (.lst ws)) := by
  have tk : Tk H (upd H p (.lst ws)) := Tk.lst hp
  have n1 : p ≠ t := fun z => I.ht.2 (by rw [← z]; exact h8)
  have n2 : p ≠ g := fun z => I.hg.2 (by rw [← z]; exact h8)
  refine ⟨I.m.keep (fun o e => ?_) tk, I.rp.keep tk, I.due.put (fun xs e => by rw [hp] at e; cases e) fun z => z.2 h8, I.T.put n1 n2, fun c h => ?_, I.ht, I.hg⟩
  · obtain ⟨dx, q, e1, _⟩ := I.m
    rw [upd_ne (ne_of e1 hp (fun z => nomatch z))]
    exact e
  · by_cases hc : c = p
    · rw [hc]
      exact h8
    · rw [upd_ne hc] at h
      exact I.dom c h
theorem I4.kp (I : I4 C t g x Ld us xs b n H7 H8 H) (k : Kp t g H H') (T : Tray H' t g m) : I4 C t g x Ld us xs b m H7 H8 H' := by
  have tk := k.tk I.T
  refine ⟨I.m.keep (fun o e => ?_) tk, I.rp.keep tk, I.due.keep tk fun a ys q e => ⟨q, ?_⟩, T, fun c h => ?_, I.ht, I.hg⟩
  · obtain ⟨dx, q, e1, _⟩ := I.m
    obtain ⟨_, et⟩ := I.T.ht
    obtain ⟨_, eg⟩ := I.T.hg
    exact k _ _ e (ne_of e1 et (fun z => nomatch z)) (ne_of e1 eg (fun z => nomatch z))
  · exact k _ _ e (fun z => I.ht.1 (by rw [← z]; exact q.1)) (fun z => I.hg.1 (by rw [← z]; exact q.1))
  · cases e : H c with
    | none => exact I.dom c e
    | some o =>
      by_cases h1 : c = t
      · obtain ⟨_, et⟩ := T.ht
        rw [h1, et] at h
        cases h
      by_cases h2 : c = g
      · obtain ⟨_, et⟩ := T.hg
        rw [h2, et] at h
        cases h
      rw [k _ _ e h1 h2] at h
      cases h
end
def spRefused (C : Addr) : Sp := fun vs H Q _ => ∃ (x : Addr) (us : List V) (xs : List Sg) (b r : Int), vs = [.ref x, .int r] ∧ MAt C H x us b ∧ RpAll H us (xs.map Sg.d) ∧ xs.length ≤ 900 ∧ r.natAbs.log2 < 1920 ∧ below r 8 = false ∧
  ∀ (L : Addr) (H' : Hp), H L = none → DL (fun a => H a = none) H' (.ref L) (.list [.int r, .bool true, .bool true, .bool false]) → Same H H' → Q (.ref L) H'
theorem rd_U {f : Int → V} {a : Int} {H : Hp} {Q : VK} (h : Q (f a) H) : rU f (.int a) H Q := ⟨a, rfl, h⟩
end Rg

/-! machines that may be refused -/
namespace Rg
open PySem PySem.Spec L2
/-! ### C(e, .., k = v, ..) in the body of a try -/
def tMakeKS (C : Addr) (n m : Nat) (sp : Sp) (gV : List V → List V → List V) (E : L2.St → XK) (t tk : TA) : TE := fun σ H Q => t σ H fun vs H1 => tk σ H1 fun zs H2 => vs.length = n ∧ zs.length = m ∧ ∀ x dx, H2 x = none → H2 dx = none → dx ≠ x →
  sp (gV (.ref x :: vs) zs) (upd (upd H2 dx (.own x)) x (.ins C dx [])) (fun v H3 => v = .non ∧ Q (.ref x) H3) (E σ)
section
variable {X : Cx} {k n : Nat} {f C : Addr} {fd : FuncData} {ps ks : List Str} {sp : Sp} {W : WX} {x : Str} {p pos : Pos} {e : Expr} {es : List Expr} {kws : List Keyword} {t tkw : TA} {g : List Value → List Value → List Value} {gV : List V → List V → List V}
theorem pe_makeKS (M : Mk X.K C f) (F : FnOk X.prog X.w X.K X.mg X.base (L2.CX X.prog X.w) k f fd ps sp) (tk : Takes X W) (hr : Room (k + 1) X.A) (hg : Gl X x) (hm : X.mg x = some (.ref C)) (hb : KBn X.K fd ps (n + 1) ks g gV) (ha : PA X (e :: es) t) (hkw : PK X kws tkw)
    (hall : (backToKw pos (keywordEach kws X.env)).all (·.1.isSome) = true := by rfl) (hks : (backToKw pos (keywordEach kws X.env)).filterMap (·.1) = ks := by rfl) (hdb : (x == ("__debug__" : Str)) = false := by decide)
    (he : starEach (e :: es) X.env = (false, eval e X.env) :: starEach es X.env := by rfl) (hpl : ((backTo pos (starEach (e :: es) X.env)).any (·.1) || (backToKw pos (keywordEach kws X.env)).any (·.1.isNone)) = false := by rfl) :
    PE X (.Call (.Name x p) (e :: es) kws pos) (tMakeKS C n ks.length sp gV (WE W) t tkw) := by
  constructor
  intro pins s σ H Q I h
  refine wpAny_Call_Name_kw (ld_glob I hg hm ?_ hdb)
  refine PySem.W.callWith_KW (h₀ := X.base) I.ok.mod.kin M.kp hall (thn (ha.run pos pins s σ H _ I h) ?_) hpl he
  rintro us sa ⟨vs, Ha, Ia, rv, qa⟩
  refine thn (hkw.run pos pins sa σ Ha _ Ia qa) ?_
  rintro ws sb ⟨zs, Hb, Ib, rz, l1, l2, qb⟩
  refine ⟨Ib.kIn, ?_⟩
  rw [hks]
  have ho := qb (sb.heap.objs.size + 1) sb.heap.objs.size (Ib.hok.fresh (Nat.le_succ _)) (Ib.hok.fresh (Nat.le_refl _)) (Nat.ne_of_lt (Nat.lt_succ_self _))
  have Im := Inv.made (C := C) Ib
  have rall := hb.rel (Paired.cons (show RelV (V.ref (sb.heap.objs.size + 1)) (Value.ref (sb.heap.objs.size + 1)) from rfl) rv) rz
  have ln : (Value.ref (sb.heap.objs.size + 1) :: us).length = n + 1 := by rw [List.length_cons, ← rv.length, l1]
  have run := F.run _ X.stack _ _ ⟨Value.ref (sb.heap.objs.size + 1) :: us, ks.zip ws⟩ (g (Value.ref (sb.heap.objs.size + 1) :: us) ws) _ _ (WE W σ) (hr.make C us (ks.zip ws)) (Im.env0.make C us (ks.zip ws)) (hb.to _ (Value.ref (sb.heap.objs.size + 1) :: us) ws Im.kIn ln (rz.length.symm.trans l2)) rall ho
  refine wpAny_call (make_map (f := f) Ib.kIn M.makes M.init (beq_iff_eq.mp M.fn) (codeAny_mono run ?_))
  intro r s' hq
  match r, hq with
  | .error er, hq => exact passAt tk σ pins _ _ er s' Im hq
  | .ok (.ret u), hq =>
    obtain ⟨v, H', I3, rv', ev, q3⟩ := Im.after hq
    subst ev
    exact ⟨rv', ⟨V.ref (sb.heap.objs.size + 1), H', I3, rfl, q3⟩⟩
  | .ok .next, hq => exact False.elim hq
  | .ok .brk, hq => exact False.elim hq
  | .ok .cont, hq => exact False.elim hq
end
theorem rd_makeKS {C : Addr} {n m : Nat} {sp : Sp} {gV : List V → List V → List V} {E : L2.St → XK} {t tk : TA} {σ : L2.St} {H : Hp} {Q : VK} (h : t σ H fun vs H1 => tk σ H1 fun zs H2 => vs.length = n ∧ zs.length = m ∧ ∀ x dx, H2 x = none → H2 dx = none → dx ≠ x →
  sp (gV (.ref x :: vs) zs) (upd (upd H2 dx (.own x)) x (.ins C dx [])) (fun v H3 => v = .non ∧ Q (.ref x) H3) (E σ)) : tMakeKS C n m sp gV E t tk σ H Q := h
/-! ### what is refused -/
def SgSmall (x : Sg) : Prop := SgForm x ∧ x.ws.length ≤ 900 ∧ x.rs.length ≤ 900
/-- what NoMachine is made with, if it is raised -/
inductive IW (xs : List Sg) (b : Int) : Option V → Prop
  | none (h : xs.length < 1 ∨ 8 < xs.length ∨ b < 2) : IW xs b (some .non)
  | num (i : Nat) (hl : 1 ≤ xs.length ∧ xs.length ≤ 8 ∧ 2 ≤ b) (y : Sg) (hy : xs[i]? = some y) (hf : sgFits y b xs.length = false) (ha : ∀ j z, j < i → xs[j]? = some z → sgFits z b xs.length = true) : IW xs b (some (.int i))
  | ok (hl : 1 ≤ xs.length ∧ xs.length ≤ 8 ∧ 2 ≤ b) (ha : ∀ z ∈ xs, sgFits z b xs.length = true) : IW xs b Option.none
def spInitX (C NM : Addr) : Sp := fun vs H Q E => ∃ (x dx L : Addr) (us : List V) (xs : List Sg) (b : Int), vs = [.ref x, .ref L, .int b] ∧ H x = some (.ins C dx []) ∧ H L = some (.lst us) ∧ RpAll H us (xs.map Sg.d) ∧ xs.length ≤ 900 ∧ (∀ y ∈ xs, SgSmall y) ∧
  (IW xs b Option.none → ∀ H', MAt C H' x us b → (∀ c o, H c = some o → c ≠ x → H' c = some o) → Q .non H') ∧
  (∀ v, IW xs b (some v) → ∀ (d : Addr) (H' : Hp), H d = Option.none → H' d = some (.xd [("what", v)]) → Same H H' → E (.ref NM) (some d) H')
end Rg
namespace Rg
open PySem PySem.Spec L2
/-! ### tuples cut and joined -/
theorem RpAll.take {H : Hp} : ∀ {ds : List PyData} {vs : List V} (n : Nat), RpAll H vs ds → RpAll H (vs.take n) (ds.take n)
  | _, _, 0, _ => .nil
  | _, _, _ + 1, .nil => .nil
  | _, _, n + 1, .cons h t => .cons h (RpAll.take n t)
theorem RpAll.set {H : Hp} {v : V} {d : PyData} (h : Rp H v d) : ∀ {ds : List PyData} {vs : List V} (n : Nat), RpAll H vs ds → RpAll H (vs.set n v) (ds.set n d)
  | _, _, _, .nil => .nil
  | _, _, 0, .cons _ t => .cons h t
  | _, _, n + 1, .cons a t => .cons a (RpAll.set h n t)
theorem RpAll.rep {H : Hp} {vs : List V} {ds : List PyData} (h : RpAll H vs ds) : ∀ n : Nat, RpAll H (List.replicate n vs).flatten (List.replicate n ds).flatten
  | 0 => .nil
  | n + 1 => by
    rw [List.replicate_succ, List.replicate_succ, List.flatten_cons, List.flatten_cons]
    exact h.append (RpAll.rep h n)
theorem cut_hi (xs : List V) (n : Nat) : cutV xs none (some (n : Int)) = xs.take n := by
  unfold cutV
  rw [HT.sIx_nat, HT.sIx_none, List.drop_zero, Nat.sub_zero, ← List.take_take, List.take_length]
section
variable {K : PySem.W.Frag} {H : Hp} {Q : VK}
theorem rd_slA {p : Addr} {xs : List V} {lo hi : Option Int} (h : H p = some (.tup xs)) (q : ∀ (p' : Addr) (H' : Hp), Same H H' → H' p' = some (.tup (cutV xs lo hi)) → Q (.ref p') H') : rSlA K (.ref p) lo hi H Q := by
  refine ⟨p, xs, rfl, SqT.of h, fun hw => ?_, fun _ p' hp' => q p' _ (same_upd hp') upd_same⟩
  refine q p H (Same.refl _) ?_
  have e : cutV xs lo hi = xs := by
    unfold cutV
    rw [hw.1, hw.2]
    simp
  rw [e]
  exact h
end
theorem rd_catA {K : PySem.W.Frag} {H : Hp} {Q : VK} {p r : Addr} {xs ys : List V} (h1 : H p = some (.tup xs)) (h2 : H r = some (.tup ys)) (hl : xs.length + ys.length ≤ 1000) (q : ∀ (p' : Addr) (H' : Hp), Same H H' → H' p' = some (.tup (xs ++ ys)) → Q (.ref p') H') : rCatA K (.ref p) (.ref r) H Q := by
  refine ⟨p, r, xs, ys, rfl, rfl, SqT.of h1, SqT.of h2, Nat.le_of_lt (small1000 hl), fun e => ?_, fun _ e => ?_, fun _ _ p' hp' => q p' _ (same_upd hp') upd_same⟩
  · exact q r H (Same.refl _) (by rw [e]; exact h2)
  · exact q p H (Same.refl _) (by rw [e, List.append_nil]; exact h1)
theorem sg_bad {x : Sg} {b m : Int} (h : brFits x.r1 x.r2 x.r3 = false ∨ below x.ga (x.rs.length + 1) = false ∨ 16 < x.ws.length ∨ (∃ y ∈ x.ws, wdFits y b m = false) ∨ ∃ y ∈ x.rs, rowFits y m = false) : sgFits x b m = false := by
  cases e : sgFits x b m with
  | false => rfl
  | true =>
    obtain ⟨h1, _, h3, h4, _, h6, h7⟩ := sg_parts e
    rcases h with h | h | h | ⟨y, hy, h⟩ | ⟨y, hy, h⟩
    · rw [h1] at h; cases h
    · rw [h3] at h; cases h
    · omega
    · rw [h6 y hy] at h; cases h
    · rw [h7 y hy] at h; cases h
def wl : Option V → List V
  | none => []
  | some v => [v]
def spWhat (C NM : Addr) : Sp := fun vs H Q _ => ∃ (L : Addr) (us : List V) (xs : List Sg) (b : Int), vs = [.ref L, .int b] ∧ H L = some (.lst us) ∧ RpAll H us (xs.map Sg.d) ∧ xs.length ≤ 900 ∧ (∀ y ∈ xs, SgSmall y) ∧
  ∀ o, IW xs b o → ∀ (Lr : Addr) (H' : Hp), H Lr = none → Same H H' → H' Lr = some (.lst (wl o)) → Q (.ref Lr) H'
/-- which segments are faulty -/
def FL (xs : List Sg) (b : Int) (N : Nat) (ds : List Nat) : Prop := ∀ j z, xs[j]? = some z → (sgFits z b N = false ↔ j ∈ ds)
end Rg
namespace Rg
open PySem PySem.Spec L2
theorem IW.un {xs : List Sg} {b : Int} {o : Option V} (h : IW xs b o) (hb : xs.length < 1 ∨ 8 < xs.length ∨ b < 2) : o = some .non := by
  cases h with
  | none _ => rfl
  | num i hl => omega
  | ok hl => omega
theorem IW.ok' {xs : List Sg} {b : Int} {o : Option V} (h : IW xs b o) (hl : 1 ≤ xs.length ∧ xs.length ≤ 8 ∧ 2 ≤ b) (hf : FL xs b xs.length []) : o = Option.none := by
  cases h with
  | none h => omega
  | num i _ y hy hb => exact absurd ((hf i y hy).mp hb) (by simp)
  | ok _ => rfl
theorem IW.first {xs : List Sg} {b : Int} {o : Option V} {j : Nat} {rest : List Nat} (h : IW xs b o) (hl : 1 ≤ xs.length ∧ xs.length ≤ 8 ∧ 2 ≤ b) (hf : FL xs b xs.length (j :: rest)) (hs : (j :: rest).Pairwise (· < ·)) (hj : j < xs.length) : o = some (.int (j : Nat)) := by
  have bad : sgFits xs[j] b xs.length = false := (hf j _ (List.getElem?_eq_getElem hj)).mpr (List.mem_cons_self ..)
  cases h with
  | none h => omega
  | num i _ y hy hb ha =>
    rcases List.mem_cons.mp ((hf i y hy).mp hb) with e | e
    · rw [e]
    · have hlt : j < i := (List.pairwise_cons.mp hs).1 i e
      have := ha j _ hlt (List.getElem?_eq_getElem hj)
      rw [this] at bad
      cases bad
  | ok _ ha =>
    rw [ha _ (List.getElem_mem hj)] at bad
    cases bad
theorem FL.bad {xs : List Sg} {b : Int} {ds : List Nat} {i : Nat} {x : Sg} (h : FL xs b xs.length ds) (hx : sgFits x b xs.length = false) : FL (xs.set i x) b (xs.set i x).length (ds ++ [i]) := fun j z hz => by
  rw [List.length_set]
  by_cases e : j = i
  · subst e
    by_cases hl : j < xs.length
    · rw [List.getElem?_set_self hl] at hz
      cases hz
      exact ⟨fun _ => by simp, fun _ => hx⟩
    · rw [List.getElem?_eq_none (by simpa using hl)] at hz
      cases hz
  · rw [List.getElem?_set_ne (Ne.symm e)] at hz
    rw [h j z hz]
    simp [e]
theorem FL.mend {xs : List Sg} {b : Int} {rest : List Nat} {i : Nat} {x : Sg} (h : FL xs b xs.length (i :: rest)) (hn : i ∉ rest) (hx : sgFits x b xs.length = true) : FL (xs.set i x) b (xs.set i x).length rest := fun j z hz => by
  rw [List.length_set]
  by_cases e : j = i
  · subst e
    by_cases hl : j < xs.length
    · rw [List.getElem?_set_self hl] at hz
      cases hz
      rw [hx]
      exact ⟨(fun q => nomatch q), fun q => absurd q hn⟩
    · rw [List.getElem?_eq_none (by simpa using hl)] at hz
      cases hz
  · rw [List.getElem?_set_ne (Ne.symm e)] at hz
    rw [h j z hz]
    simp [e]
/-- the segments, which of them are faulty, what is due, the tray -/
structure I7 (t g L Dl : Addr) (us : List V) (xs : List Sg) (b : Int) (al ds : List Nat) (n : Nat) (H : Hp) : Prop where
  hL : H L = some (.lst us)
  rp : RpAll H us (xs.map Sg.d)
  sm : ∀ y ∈ xs, SgSmall y
  fl : FL xs b xs.length ds
  hD : H Dl = some (.lst (al.map fun j => V.int (j : Nat)))
  T : Tray H t g n
  n1 : L ≠ t
  n2 : L ≠ g
  n3 : Dl ≠ t
  n4 : Dl ≠ g
  n5 : L ≠ Dl
section
variable {t g L Dl : Addr} {us : List V} {xs : List Sg} {b : Int} {al ds : List Nat} {n m : Nat} {H H' : Hp}
theorem I7.same (I : I7 t g L Dl us xs b al ds n H) (s : Same H H') : I7 t g L Dl us xs b al ds n H' :=
  ⟨s _ _ I.hL, I.rp.keep (Tk.of s), I.sm, I.fl, s _ _ I.hD, I.T.same s, I.n1, I.n2, I.n3, I.n4, I.n5⟩
theorem I7.kp (I : I7 t g L Dl us xs b al ds n H) (k : Kp t g H H') (T : Tray H' t g m) : I7 t g L Dl us xs b al ds m H' :=
  ⟨k _ _ I.hL I.n1 I.n2, I.rp.keep (k.tk I.T), I.sm, I.fl, k _ _ I.hD I.n3 I.n4, T, I.n1, I.n2, I.n3, I.n4, I.n5⟩
theorem I7.len (I : I7 t g L Dl us xs b al ds n H) : us.length = xs.length := by rw [I.rp.length, List.length_map]
theorem I7.set {v : V} {x : Sg} {i : Nat} {ds' : List Nat} (I : I7 t g L Dl us xs b al ds n H) (r : Rp H v x.d) (hx : SgSmall x) (hf : FL (xs.set i x) b (xs.set i x).length ds') : I7 t g L Dl (us.set i v) (xs.set i x) b al ds' n (upd H L (.lst (us.set i v))) := by
  have tk : Tk H (upd H L (.lst (us.set i v))) := Tk.lst I.hL
  refine ⟨upd_same, ?_, fun y hy => ?_, hf, by rw [upd_ne (Ne.symm I.n5)]; exact I.hD, I.T.put I.n1 I.n2, I.n1, I.n2, I.n3, I.n4, I.n5⟩
  · rw [List.map_set]
    exact RpAll.set (r.keep tk) i (I.rp.keep tk)
  · rcases List.mem_or_eq_of_mem_set hy with h | h
    · exact I.sm y h
    · rw [h]
      exact hx
theorem I7.due {al' : List Nat} (I : I7 t g L Dl us xs b al ds n H) : I7 t g L Dl us xs b al' ds n (upd H Dl (.lst (al'.map fun j => V.int (j : Nat)))) := by
  have tk : Tk H (upd H Dl (.lst (al'.map fun j => V.int (j : Nat)))) := Tk.lst I.hD
  exact ⟨by rw [upd_ne I.n5]; exact I.hL, I.rp.keep tk, I.sm, I.fl, upd_same, I.T.put I.n3 I.n4, I.n1, I.n2, I.n3, I.n4, I.n5⟩
theorem ixN_nat {n i : Nat} {z : Int} (e : z = (i : Int)) (h : i < n) : ixN n z = some i := by
  unfold ixN
  rw [e, if_pos (by omega), if_pos (by omega)]
  simp
end
theorem sorted_len : ∀ (l : List Nat) (lo m : Nat), l.Pairwise (· < ·) → (∀ j ∈ l, lo ≤ j ∧ j < m) → lo ≤ m → l.length ≤ m - lo
  | [], _, _, _, _, _ => Nat.zero_le _
  | a :: l, lo, m, hp, hb, _ => by
    have hp' := List.pairwise_cons.mp hp
    have h2 := hb a (List.mem_cons_self ..)
    have h1 := sorted_len l (a + 1) m hp'.2 (fun j hj => ⟨hp'.1 j hj, (hb j (List.mem_cons_of_mem _ hj)).2⟩) (by omega)
    rw [List.length_cons]
    omega
end Rg

/-! segments in another order -/
namespace Rg
open PySem PySem.Spec L2
theorem mt_indexK {X : Cx} {K : PySem.W.Frag} (h : X.K = K := by rfl) : MtR X "list.index" (rIndex K) := by subst h; exact mt_index
/-- a comprehension of things that are tuples all through -/
def CompR {β : Type} (D : Addr) (H1 : Hp) (xs : List β) (f : β → PyData) (i : Nat) (H' : Hp) : Prop := ∃ vs, H' D = some (.lst vs) ∧ RpAll H' vs ((xs.take i).map f) ∧ Same H1 H'
theorem CompR.start {β : Type} {D : Addr} {H1 : Hp} {xs : List β} {f : β → PyData} (hD : H1 D = none) : CompR D H1 xs f 0 (upd H1 D (.lst [])) := ⟨[], upd_same, .nil, same_upd hD⟩
theorem CompR.step {β : Type} {D : Addr} {H1 H2 H4 : Hp} {xs : List β} {f : β → PyData} {i : Nat} {b : β} {y : V} (h : CompR D H1 xs f i H2) (hD : H1 D = none) (hi : i ≤ 1000) (hb : xs[i]? = some b) (k : Same H2 H4) (r : Rp H4 y (f b)) :
    ∃ acc, H4 D = some (.lst acc) ∧ acc.length < sizeLine ∧ CompR D H1 xs f (i + 1) (upd H4 D (.lst (acc ++ [y]))) := by
  obtain ⟨vs, h1, h2, s1⟩ := h
  have e4 := k _ _ h1
  have tk : Tk H4 (upd H4 D (.lst (vs ++ [y]))) := Tk.lst e4
  refine ⟨vs, e4, ?_, vs ++ [y], upd_same, ?_, fun c o q => ?_⟩
  · rw [h2.length, List.length_map, List.length_take]
    exact small1000 (by omega)
  · rw [take_snoc hb, List.map_append]
    exact ((h2.keep (Tk.of k)).keep tk).append (.cons (r.keep tk) .nil)
  · rw [upd_ne (ne_of_none q hD)]
    exact k _ _ (s1 _ _ q)
theorem CompR.end {β : Type} {D : Addr} {H1 H2 : Hp} {xs : List β} {f : β → PyData} {n : Nat} (h : CompR D H1 xs f n H2) (hn : n = xs.length) : ∃ vs, H2 D = some (.lst vs) ∧ RpAll H2 vs (xs.map f) ∧ Same H1 H2 := by
  subst hn
  obtain ⟨vs, h1, h2, s⟩ := h
  rw [List.take_length] at h2
  exact ⟨vs, h1, h2, s⟩
/-! ### numbers of segments put otherwise -/
def spV (sp : List Nat) : List V := sp.map fun j => V.int (j : Nat)
def putW (sp : List Nat) : Wd → Wd
  | .num n => .num n
  | .ptr r s p => .ptr r (sp.getD s.toNat 0 : Nat) p
def putR (sp : List Nat) (r : Rw) : Rw := match r.ns with
  | [q, s, n] => if r.op = "aim" then ⟨r.op, [q, (sp.getD s.toNat 0 : Nat), n]⟩ else r
  | _ => r
def putS (sp : List Nat) (x : Sg) : Sg := { x with ws := x.ws.map (putW sp), rs := x.rs.map (putR sp) }
/-- what is named is there -/
def inW (N : Nat) : Wd → Prop
  | .num _ => True
  | .ptr _ s _ => 0 ≤ s ∧ s < (N : Int)
def inR (N : Nat) (r : Rw) : Prop := ∀ q s n, r.ns = [q, s, n] → r.op = "aim" → 0 ≤ s ∧ s < (N : Int)
theorem sp_at {sp : List Nat} {s : Int} (h0 : 0 ≤ s) (h1 : s < sp.length) : atI (spV sp) s = some (.int (sp.getD s.toNat 0 : Nat)) := by
  have hl : s.toNat < sp.length := by omega
  refine at_of (j := s.toNat) (by omega) ?_
  unfold spV
  rw [List.getElem?_map, List.getElem?_eq_getElem hl, List.getD_eq_getElem?_getD, List.getElem?_eq_getElem hl]
  rfl
def spPutW : Sp := fun vs H Q _ => ∃ (v : V) (S : Addr) (x : Wd) (sp : List Nat), vs = [v, .ref S] ∧ Rp H v x.d ∧ H S = some (.lst (spV sp)) ∧ inW sp.length x ∧ ∀ (u : V) (H' : Hp), Same H H' → Rp H' u (putW sp x).d → Q u H'
def spPutR : Sp := fun vs H Q _ => ∃ (v : V) (S : Addr) (x : Rw) (sp : List Nat), vs = [v, .ref S] ∧ Rp H v x.d ∧ RwForm x ∧ H S = some (.lst (spV sp)) ∧ inR sp.length x ∧ ∀ (u : V) (H' : Hp), Same H H' → Rp H' u (putR sp x).d → Q u H'
def spPutS : Sp := fun vs H Q _ => ∃ (v : V) (S : Addr) (x : Sg) (sp : List Nat), vs = [v, .ref S] ∧ Rp H v x.d ∧ SgSmall x ∧ H S = some (.lst (spV sp)) ∧ (∀ y ∈ x.ws, inW sp.length y) ∧ (∀ y ∈ x.rs, inR sp.length y) ∧ ∀ (u : V) (H' : Hp), Same H H' → Rp H' u (putS sp x).d → Q u H'
end Rg

/-! ways of statements that join again; unpacked lists; tables put otherwise -/
namespace Rg
open PySem PySem.Spec L2
theorem rd_seqJ {t u : TS} {D : Ends} {σ : L2.St} {H : Hp} (post : L2.St → Hp → Prop) (h1 : ∀ R : L2.St → Hp → Prop, (∀ σ' H', post σ' H' → R σ' H') → t { D with nx := R } σ H) (h2 : ∀ σ' H', post σ' H' → u D σ' H') : tSeq t u D σ H := h1 (u D) h2
theorem rd_glst {K : PySem.W.Frag} {σ : L2.St} {H : Hp} {R : L2.St → Hp → Prop} {n : Nat} {t : TGs} {a : Addr} {xs : List V} (h : H a = some (.lst xs)) (hl : xs.length = n) (q : t xs σ H R) : gLst K n t (.ref a) σ H R := ⟨a, xs, rfl, SqL.of h, hl, q⟩
theorem rd_neB {H : Hp} {Q : VK} {a b : Bool} (h : Q (.bl (a != b)) H) : rNe (.bl a) (.bl b) H Q := by
  refine ⟨rfl, ?_⟩
  have e : (!decide (V.bl a = V.bl b)) = (a != b) := by cases a <;> cases b <;> simp
  rw [e]
  exact h
theorem rd_eqB {H : Hp} {Q : VK} {a b : Bool} (h : Q (.bl (a == b)) H) : rEq (.bl a) (.bl b) H Q := by
  refine ⟨rfl, ?_⟩
  have e : decide (V.bl a = V.bl b) = (a == b) := by cases a <;> cases b <;> simp
  rw [e]
  exact h
def dSg : Sg := ⟨0, 0, 0, "", 0, [], []⟩
theorem alD_rp {S : Addr → Prop} {H : Hp} {v : V} {r : Int} {x : Sg} (h : DL S H v (alD r x)) : Rp H v (alD r x) := by
  unfold alD at *
  cases h with
  | tup e h =>
    cases h with
    | cons a1 h =>
      cases h with
      | cons a2 h =>
        cases h with
        | cons a3 h =>
          cases h with
          | cons a4 h =>
            cases h
            cases a1; cases a2; cases a3; cases a4
            exact .tup e (.cons (.bl _) (.cons (.bl _) (.cons (.bl _) (.cons (.bl _) .nil))))
theorem tab_lay (xs : List Sg) : (tabD xs).canLay0 = true := by
  show PyData.canLayAll0 ((List.range 8).map fun r => .list (xs.map (alD (r : Nat)))) = true
  refine lay_map (f := fun r : Nat => PyData.list (xs.map (alD (r : Nat)))) _ fun r _ => ?_
  show PyData.canLayAll0 (xs.map (alD (r : Nat))) = true
  exact lay_map _ fun x _ => rfl
theorem tab_shaped (xs : List Sg) (hl : xs.length ≤ 1000) : SeqAt.shaped (tabD xs) = true := shaped_of (tab_lay xs) (tab_ok xs hl) (by decide)
end Rg

/-! sum of truths; lists of truths -/
namespace Rg
open PySem PySem.Spec L2
def one01 (b : Bool) : Int := if b = true then 1 else 0
def rSumB (K : PySem.W.Frag) : List V → Hp → VK → Prop := fun vs H Q => ∃ (a : Addr) (bs : List Bool), vs = [.ref a] ∧ SqL K H a (bs.map V.bl) ∧ Q (.int (bs.map one01).sum) H
theorem vals_bl : ∀ {bs : List Bool} {us : List Value} {i : Nat} {v : Value}, Vals (bs.map V.bl) us → us[i]? = some v → ∃ b, bs[i]? = some b ∧ v = .bool b
  | [], _, i, v, h, e => by
    cases h
    simp at e
  | b :: bs, _, i, v, h, e => by
    cases h with
    | cons r t =>
      match i, e with
      | 0, e =>
        have e' := Option.some.inj e
        subst e'
        exact ⟨b, rfl, r⟩
      | i + 1, e =>
        obtain ⟨b', h1, h2⟩ := vals_bl t (i := i) (by simpa using e)
        exact ⟨b', by simpa using h1, h2⟩
theorem cr_sumB {X : Cx} {K : PySem.W.Frag} (hc : X.calm = true) (hK : X.K = K := by rfl) : CallR X (.builtin "sum") (rSumB K) := by
  subst hK
  intro pins s σ H vs us Q I r h
  obtain ⟨a, bs, rfl, hs, q⟩ := h
  obtain ⟨its, rv, hl, _⟩ := I.list hs
  rw [Vals.ref1 r]
  have hL := hl.isList
  have lt : a < s.heap.objs.size := by
    obtain ⟨_, e, _⟩ := hL
    exact Heap.lt_size e
  have ln : its.length = bs.length := by rw [← rv.length, List.length_map]
  refine call_sum_walkAnyB (wpAny_pyIter_list hL ?_)
  refine ⟨s.heap.objs.size, [s.heap.objs.size, a], [s.heap.objs.size], _, its.toArray.size, _, _, fun i => (bs.map one01).getD i 0, rfl, (Walks.list (A := X.A.in1) (I.ok.hd hc) _ a (Nat.ne_of_lt lt) its.toArray).toS, ⟨⟨_, Heap.get?_push_size _ rfl, rfl, rfl⟩, hL.push _⟩, fun b hb => ?_, fun i v hv => ?_, fun s' t' hm => ?_⟩
  · show b < (Heap.push s.heap _).objs.size
    rw [Heap.size_push]
    rcases List.mem_cons.mp hb with h | h
    · exact h ▸ Nat.lt_succ_self _
    · exact List.mem_singleton.mp h ▸ Nat.lt_succ_of_lt lt
  · obtain ⟨b, h1, rfl⟩ := vals_bl rv (by simpa using hv)
    refine .inr ⟨b, rfl, ?_⟩
    dsimp only
    rw [List.getD_eq_getElem?_getD, List.getElem?_map, h1]
    rfl
  · have e : PySem.preSum (fun i => (bs.map one01).getD i 0) its.toArray.size = (bs.map one01).sum := by
      rw [PyProof.Rows.preSum_getD, List.take_of_length_le (by simp; omega)]
    rw [e, Moved.eq_with hm]
    refine ⟨.int _, H, I.kept (h' := s'.heap) (t' := s'.toks) (fun b o hb => ?_), ⟨_, rfl⟩, q⟩
    exact hm.heap b o (fun hmem => Nat.ne_of_lt (Heap.lt_size hb) (List.mem_singleton.mp hmem)) (Heap.get?_push_of_some _ hb)
theorem inV_bl (b : Bool) (bs : List Bool) : inV (.bl b) (bs.map V.bl) = bs.contains b := by
  induction bs with
  | nil => rfl
  | cons a r ih =>
    have h : inV (.bl b) ((a :: r).map V.bl) = (eqV (.bl a) (.bl b) || inV (.bl b) (r.map V.bl)) := rfl
    rw [h, ih, List.contains_cons]
    cases a <;> cases b <;> rfl
theorem dp_bls {K : PySem.W.Frag} {H : Hp} : ∀ (bs : List Bool), DpAll K H (bs.map V.bl) (bs.map PyData.bool)
  | [] => .nil
  | b :: bs => .cons (.bl b) (dp_bls bs)
theorem dp_blm {K : PySem.W.Frag} {H : Hp} {α : Type} (f : α → Bool) : ∀ (xs : List α), DpAll K H (xs.map fun k => V.bl (f k)) ((xs.map f).map PyData.bool)
  | [] => .nil
  | b :: bs => .cons (.bl (f b)) (dp_blm f bs)
theorem lay_bls (bs : List Bool) : (PyData.list (bs.map PyData.bool)).canLay0 = true := lay_map bs fun _ _ => rfl
theorem shaped_bls (bs : List Bool) : SeqAt.shaped (.list (bs.map PyData.bool)) = true := by
  have h2 : ∀ bs : List Bool, PyData.depthAll (bs.map .bool) = 0 := fun bs => by
    induction bs with
    | nil => rfl
    | cons a r ih =>
      show max (PyData.depth (.bool a)) (PyData.depthAll (r.map .bool)) = 0
      rw [ih]
      rfl
  unfold SeqAt.shaped
  rw [lay_bls, show PyData.depth (.list (bs.map PyData.bool)) = PyData.depthAll (bs.map PyData.bool) + 1 from rfl, h2]
  rfl
/-- ways that join again, the names as they were -/
theorem rd_seqH {t u : TS} {D : Ends} {σ : L2.St} {H : Hp} (post : Hp → Prop) (h1 : ∀ R : L2.St → Hp → Prop, (∀ H', post H' → R σ H') → t { D with nx := R } σ H) (h2 : ∀ H', post H' → u D σ H') : tSeq t u D σ H := by
  refine rd_seqJ (fun σ' H' => σ' = σ ∧ post H') (fun R hR => h1 R fun H' h => hR σ H' ⟨rfl, h⟩) ?_
  rintro σ' H' ⟨rfl, h⟩
  exact h2 H' h
theorem cut_lo (xs : List V) (n : Nat) : cutV xs (some (n : Int)) none = xs.drop n := by
  unfold cutV
  rw [HT.sIx_nat]
  have : HT.sIx xs.length xs.length none = xs.length := rfl
  rw [this]
  by_cases h : n ≤ xs.length
  · rw [Nat.min_eq_left h]
    exact List.take_of_length_le (by rw [List.length_drop]; omega)
  · rw [Nat.min_eq_right (by omega), Nat.sub_self, List.take_zero, List.drop_of_length_le (by omega)]
theorem all_flat (bs : List Bool) : (bs.map V.bl).all flatV = true := by
  rw [List.all_map, List.all_eq_true]
  exact fun _ _ => rfl
end Rg

/-! an error that is kept beyond its suite: what follows is read with the error's object pinned -/
namespace Rg
open PySem PySem.Spec L2
/-- the context with one more object pinned -/
abbrev pinX (X : Cx) (pn : List (Addr × Obj)) : Cx := { X with pn := pn }
def wKp (K : PySem.W.Frag) (c : Value) (i : Nat) (t₀ : TS) (ts : Addr → Value → Option Addr → TS) (D : Ends) : WX := fun cls d σ H =>
  PySem.W.exmOne K cls c = some true ∧ ∀ a, H a = none → t₀ { nx := fun σ' H' => ts a cls d D (σ'.set i none) H', rt := fun _ _ => False, bk := fun _ _ => False, ct := fun _ _ => False } (σ.set i (some (.ref a))) H
section
variable {X : Cx} {pins : List (Addr × Obj)} {σ : L2.St} {H : Hp} {s : Shared}
theorem inv_pin {a : Addr} {q : Addr × Obj} {pn' : List (Addr × Obj)} (J : L2.Inv (X.suite a (q :: (X.pn ++ pins))) pn' σ H s) (ok : X.Ok) : L2.Inv (pinX X (q :: (X.pn ++ pins))) [] σ H s where
  ok := ok.toTry (q :: (X.pn ++ pins)) X.xe
  os := J.os
  bare := J.bare
  base := J.base
  loc := J.loc
  cell := J.cell
  free := J.free
  freeC := J.freeC
  pin := fun p hp => J.pin p (List.mem_append_left pn' (by rw [List.append_nil] at hp; exact hp))
  hok := J.hok
  len := J.len
theorem pin_inv {q : Addr × Obj} (J : L2.Inv (pinX X (q :: (X.pn ++ pins))) [] σ H s) (ok : X.Ok) : L2.Inv X pins σ H s where
  ok := ok
  os := J.os
  bare := J.bare
  base := J.base
  loc := J.loc
  cell := J.cell
  free := J.free
  freeC := J.freeC
  pin := fun p hp => J.pin p (by rw [List.append_nil]; exact List.mem_cons_of_mem _ hp)
  hok := J.hok
  len := J.len
theorem sp_pin {q : Addr × Obj} {D : Ends} {f : Flow} (ok : X.Ok) (h : SP (pinX X (q :: (X.pn ++ pins))) [] D f s) : SP X pins D f s := by
  cases f with
  | next => exact let ⟨σ', H', J, r⟩ := h; ⟨σ', H', pin_inv J ok, r⟩
  | brk => exact let ⟨σ', H', J, r⟩ := h; ⟨σ', H', pin_inv J ok, r⟩
  | cont => exact let ⟨σ', H', J, r⟩ := h; ⟨σ', H', pin_inv J ok, r⟩
  | ret u => exact let ⟨v, σ', H', J, r1, r⟩ := h; ⟨v, σ', H', pin_inv J ok, r1, r⟩
end
section
variable {X : Cx} {x n : Str} {c : Value} {i : Nat} {body rest : List Stmt} {b₀ : Stmt} {np pos pos' : Pos} {tb : WX → TS} {tr t₀ : TS} {ts : Addr → Value → Option Addr → TS}
theorem pss_try_keep (hs : X.stack = X.env :: X.outer) (hf : X.env.frame = some X.env.locals) (hN : X.N.Nodup) (hi : X.N[i]? = some n) (hln : X.env.kindOf n = some .local) (hc : Names X x c)
    (hb : ∀ (W : WX) (pn : List (Addr × Obj)) (xe : Value → Shared → Prop), Takes (X.tr pn xe) W → PassesOwn (model X.prog X.w) X.A X.env xe → PSs (X.tr pn xe) body (tb W))
    (h0 : PSs X rest tr) (h1 : ∀ (a : Addr) (pn : List (Addr × Obj)), PSs (X.suite a pn) [b₀] t₀)
    (h2 : ∀ (a : Addr) (oe : Obj) (cls : Value) (d : Option Addr) (pn : List (Addr × Obj)), Zc cls d oe → (∃ fv, oe.data = .fields fv) → PSs (pinX X ((a, oe) :: pn)) rest (ts a cls d)) :
    PSs X (.Try body [.ExceptHandler (some (.Name x np)) (some n) [b₀] pos'] [] [] pos :: rest) (fun D σ H => tb (wKp X.K c i t₀ ts D) { D with nx := tr D } σ H) := by
  refine ⟨fun pins s σ H D I h => wpAny_execs_cons (wpAny_Try_except ?_)⟩
  have ok := I.ok
  have frm : X.A.frames = some (X.env :: X.outer) := hs ▸ ok.frames
  refine wpAny_mono ((hb (wKp X.K c i t₀ ts D) (X.pn ++ pins) _ (fun u z ev => ?_) PassesOwn.looking).run [] s σ H { D with nx := tr D } (I.toTry _) h) (fun fl z hz => ?_) (fun _ _ he => he)
  case refine_2 =>
    cases fl with
    | next =>
      obtain ⟨σ1, H1, J, r⟩ := hz
      exact wpAny_execs_nil (h0.run pins z σ1 H1 D (J.ofTry ok) r)
    | brk => exact let ⟨σ1, H1, J, r⟩ := hz; ⟨σ1, H1, J.ofTry ok, r⟩
    | cont => exact let ⟨σ1, H1, J, r⟩ := hz; ⟨σ1, H1, J.ofTry ok, r⟩
    | ret u => exact let ⟨v, σ1, H1, J, r1, r⟩ := hz; ⟨v, σ1, H1, J.ofTry ok, r1, r⟩
  obtain ⟨a, B, sB, _, σ1, H1, cls, d, rfl, J0, q1, q2, q3, na, q5, q6, exm, go⟩ := ev
  have J : L2.Inv X pins σ1 H1 sB := J0.ofTry ok
  show wpAny (model X.prog X.w) X.A (noteFrame (.ref a) X.env) _ _ _
  refine Sky.land Zc.steady frm hf (hs ▸ q3) fun hA fA uA => ?_
  have JA : L2.Inv X pins σ1 H1 { z with heap := hA } := J.landed q1 fA.1 (q2.trans uA) q5 q6
  obtain ⟨oA, vA, gA, zA, dA⟩ := fA.there
  have nofr : a ∉ frs (X.env :: X.outer) := fun hm => by
    obtain ⟨_, o', e', nf⟩ := fA.2.2.1.mem hm
    cases gA.symm.trans e'
    exact nf vA dA
  have nL : a ≠ X.env.locals := fun e => nofr (List.mem_filterMap.mpr ⟨X.env, List.mem_cons_self, e ▸ hf⟩)
  have nF : a ∉ X.fs := fun hm => let ⟨e, he, q⟩ := List.mem_filterMap.mp hm; nofr (List.mem_filterMap.mpr ⟨e, List.mem_cons_of_mem _ he, q⟩)
  have SA := JA.suite gA dA na nL nF
  refine wpAny_handleBy_cons (codeAny_handlers_test ?_) (fun q => nomatch q)
  have lk : PySem.W.Looks (model X.prog X.w) hA (typeOf (.ref a)) cls := fun A0 Q0 E0' s0 k0 q0 => wpAny_typeOf_ref (k0 a oA gA) (zA.1 ▸ q0)
  have lm := PySem.W.exm_one (M := model X.prog X.w) JA.kIn lk exm
  have named : ∀ {Q0 E0' : Value → Shared → Prop}, Q0 c { z with heap := hA } → wpAny (model X.prog X.w) (X.A.mark (some (.ref a))) (eval (.Name x np) X.env) Q0 E0' { z with heap := hA } := fun {Q0 E0'} q0 => by
    obtain ⟨g1, g2, g3 | ⟨g3, g4, g5⟩⟩ := hc
    · exact ld_glob (X := X.suite a ((a, oA) :: (X.pn ++ pins))) SA g1 g3 q0 g2
    · exact ld_blt (X := X.suite a ((a, oA) :: (X.pn ++ pins))) SA g1 g3 g4 q0 g5 g2
  refine named (lm.here (codeAny_handlers_suite_as (HandSPX.lands_againZ fA fun hC fC uC => ?_)))
  have JC : L2.Inv X pins σ1 H1 { z with heap := hC } := J.landed q1 fC.1 ((q2.trans uA).trans uC) q5 q6
  obtain ⟨oC, vC, gC, zC, dC⟩ := fC.there
  refine store_ok (X := X.suite a ((a, oC) :: (X.pn ++ pins))) (v := .ref a) (JC.suite gC dC na nL nF) hN hi (.inl hln) rfl (fun sD SD => ?_) (.inr hln)
  refine wpAny_mono ((h1 a ((a, oC) :: (X.pn ++ pins))).run [] sD _ H1 _ SD (go a na)) (fun fl sE he => ?_) (fun _ _ q => False.elim q)
  cases fl with
  | next =>
    obtain ⟨σ2, H2, S2, r2⟩ := he
    have P2 := inv_pin S2 ok
    exact gone_ok (X := pinX X ((a, oC) :: (X.pn ++ pins))) P2 hN hi hln fun sF PF => thn ((h2 a oC cls d (X.pn ++ pins) zC ⟨vC, dC⟩).run [] sF _ H2 D PF r2) fun fl' sG q => sp_pin ok q
  | brk => exact let ⟨_, _, _, q⟩ := he; False.elim q
  | cont => exact let ⟨_, _, _, q⟩ := he; False.elim q
  | ret u => exact let ⟨_, _, _, _, _, q⟩ := he; False.elim q
end
section
variable {X : Cx} {a : Addr} {oe : Obj} {cls : Value} {d : Option Addr} {pn : List (Addr × Obj)} {K : PySem.W.Frag}
theorem inst_pin {pins : List (Addr × Obj)} {σ : L2.St} {H : Hp} {s : Shared} {D dd : Addr} {fs : List (Str × V)} (hz : Zc (.ref D) (some dd) oe) (hf : ∃ fv, oe.data = .fields fv) (I : L2.Inv (pinX X ((a, oe) :: pn)) pins σ H s) (hx : H dd = some (.xd fs)) : ∃ od, PySem.W.InstAt s.heap a oe D (some od) := by
  obtain ⟨fv, hv⟩ := hf
  have g := (I.pin (a, oe) (List.mem_append.mpr (.inl List.mem_cons_self))).1
  obtain ⟨mA, ⟨o, _, _, e, _⟩, _⟩ := (show ObjOk X.prog X.w H s.heap dd (.xd fs) from I.hok dd _ hx)
  obtain ⟨oc, od, oda, osl⟩ := oe
  obtain ⟨h1, h2⟩ := hz
  dsimp only at h1 h2 hv
  subst h1 h2 hv
  exact ⟨o, g, rfl, rfl, e⟩
/-- isinstance(caught, C) -/
theorem crp_isX (hz : Zc cls d oe) (hf : ∃ fv, oe.data = .fields fv) (hK : X.K = K := by rfl) : CallR (pinX X ((a, oe) :: pn)) (.builtin "isinstance") (rIsX K a cls d) := by
  subst hK
  intro pins s σ H xs us Q I r h
  obtain ⟨c, D, dd, fs, cv, b, rfl, rfl, rfl, hx, E, k, e, q⟩ := h
  obtain ⟨u1, u2, rfl, r1, r2⟩ := vals2 r
  cases r1
  cases k.eq r2
  obtain ⟨od, J⟩ := inst_pin hz hf I hx
  exact PySem.W.kia_one (PySem.W.kitx_exc E.cl E.xf.ga E.xf.gg E.xf.exC E.ha E.hn E.ht E.hm) I.kIn J e (fun z => nomatch z) fun tk => ⟨.bl b, H, I.tok tk, rfl, q⟩
theorem crp_isXT (hz : Zc cls d oe) (hf : ∃ fv, oe.data = .fields fv) (hK : X.K = K := by rfl) : CallR (pinX X ((a, oe) :: pn)) (.builtin "isinstance") (rIsXT K a cls d) := by
  subst hK
  intro pins s σ H xs us Q I r h
  obtain ⟨tp, D, dd, cs, ws, fs, b, rfl, rfl, rfl, hx, E, hT, k, e, q⟩ := h
  obtain ⟨u1, u2, rfl, r1, r2⟩ := vals2 r
  cases r1
  cases (show u2 = Value.ref tp from r2)
  obtain ⟨od, J⟩ := inst_pin hz hf I hx
  obtain ⟨_, its, rv, o, h1, h2, n, h3⟩ := (show ObjOk X.prog X.w H s.heap tp (.tup cs) from I.hok tp _ hT)
  have e3 := ClsV.all k rv
  subst e3
  obtain ⟨oc, od', dt, sl⟩ := o
  simp only at h2 h3
  subst h2 h3
  exact PySem.W.kia_tup (PySem.W.kitx_exc E.cl E.xf.ga E.xf.gg E.xf.exC E.ha E.hn E.ht E.hm) I.kIn J h1 e (fun z => nomatch z) fun tk => ⟨.bl b, H, I.tok tk, rfl, q⟩
/-- caught.f -/
theorem pep_xf {C : Addr} {e : Expr} {te : TE} {pos : Pos} {n : Str} (T : XfC X.K C) (hno : PySem.W.findIn X.K (.ref C) n = some none) (hz : Zc cls d oe) (hf : ∃ fv, oe.data = .fields fv) (he : PE (pinX X ((a, oe) :: pn)) e te) (hb : attributeBase e n X.env (eval e X.env) = eval e X.env := by rfl) :
    PE (pinX X ((a, oe) :: pn)) (.Attribute e n pos) (tXf a cls d C n te) := by
  refine ⟨fun pins s σ H Q I h => attr_of hb (thn (he.run pins s σ H _ I h) fun u z hh => ?_)⟩
  obtain ⟨y, H1, I1, ry, ey, ec, dd, fs, v, ed, ea, lv, q⟩ := hh
  subst ey ec ed
  obtain rfl : u = Value.ref a := ry
  have g := (I1.pin (a, oe) (List.mem_append_left _ List.mem_cons_self)).1
  obtain ⟨fv, dv⟩ := hf
  obtain ⟨mA, ns, rl⟩ := (show ObjOk X.prog X.w H1 z.heap dd (.xd fs) from I1.hok dd _ ea)
  obtain ⟨od, ho, look⟩ := lookIn_ns ns
  obtain ⟨w, hw, rw'⟩ := RelO.some_of (v := v) (o := mA n) (lv ▸ rl n)
  have J : PySem.W.InstAt z.heap a oe C (some od) := ⟨g, hz.1, by unfold PySem.W.notCls; rw [dv] <;> rfl, hz.2 ▸ ho⟩
  exact HandSPX.exc_get I1.kIn J T.ga T.gg T.exC (PySem.W.findObj_own T.hdC hno rfl (by rw [look, hw])) (handed_of rw') ⟨v, H1, I1.tok _, rw', q⟩
end
end Rg

/-! decks -/
namespace Rg
open PySem PySem.Spec L2
/-- a deck of draws: two lists -/
structure Deck (H : Hp) (t g : Addr) (n : Nat) : Prop where
  ne : t ≠ g
  ex : ∃ (gs : List Int) (f c : Int), H t = some (.lst [.ref g, .int f, .int c]) ∧ H g = some (.lst (gs.map V.int)) ∧ (∀ z ∈ gs, 0 ≤ z) ∧ 0 ≤ f ∧ f < 2305843009213693952 ∧ 0 ≤ c ∧ c ≤ (n : Int)
theorem Deck.mono {H : Hp} {t g : Addr} {n m : Nat} (T : Deck H t g n) (h : n ≤ m) : Deck H t g m := by
  obtain ⟨ne, gs, f, c, h1, h2, h3, h4, h5, h6, h7⟩ := T
  exact ⟨ne, gs, f, c, h1, h2, h3, h4, h5, h6, by omega⟩
theorem Deck.same {H H' : Hp} {t g : Addr} {n : Nat} (T : Deck H t g n) (s : Same H H') : Deck H' t g n := by
  obtain ⟨ne, gs, f, c, h1, h2, h3⟩ := T
  exact ⟨ne, gs, f, c, s _ _ h1, s _ _ h2, h3⟩
theorem Deck.new {H : Hp} {t g p : Addr} {n : Nat} {o : HO} (T : Deck H t g n) (h : H p = none) : Deck (upd H p o) t g n := T.same (same_upd h)
theorem Deck.put {H : Hp} {t g p : Addr} {n : Nat} {o : HO} (T : Deck H t g n) (h1 : p ≠ t) (h2 : p ≠ g) : Deck (upd H p o) t g n := by
  obtain ⟨ne, gs, f, c, e1, e2, h3⟩ := T
  exact ⟨ne, gs, f, c, by rw [upd_ne (Ne.symm h1)]; exact e1, by rw [upd_ne (Ne.symm h2)]; exact e2, h3⟩
theorem Deck.ht {H : Hp} {t g : Addr} {n : Nat} (T : Deck H t g n) : ∃ xs, H t = some (.lst xs) := by
  obtain ⟨_, _, _, _, e, _⟩ := T
  exact ⟨_, e⟩
theorem Deck.hg {H : Hp} {t g : Addr} {n : Nat} (T : Deck H t g n) : ∃ xs, H g = some (.lst xs) := by
  obtain ⟨_, _, _, _, _, e, _⟩ := T
  exact ⟨_, e⟩
/-- a place that was free is none of the tray's -/
theorem Deck.net {H : Hp} {t g p : Addr} {n : Nat} (T : Deck H t g n) (h : H p = none) : p ≠ t := by
  obtain ⟨_, e⟩ := T.ht
  exact Ne.symm (ne_of_none e h)
theorem Deck.neg {H : Hp} {t g p : Addr} {n : Nat} (T : Deck H t g n) (h : H p = none) : p ≠ g := by
  obtain ⟨_, e⟩ := T.hg
  exact Ne.symm (ne_of_none e h)
theorem Deck.netT {H : Hp} {t g p : Addr} {n : Nat} {xs : List V} (T : Deck H t g n) (h : H p = some (.tup xs)) : p ≠ t := by
  obtain ⟨_, e⟩ := T.ht
  exact ne_of h e (fun z => nomatch z)
theorem Deck.negT {H : Hp} {t g p : Addr} {n : Nat} {xs : List V} (T : Deck H t g n) (h : H p = some (.tup xs)) : p ≠ g := by
  obtain ⟨_, e⟩ := T.hg
  exact ne_of h e (fun z => nomatch z)
theorem Kp.dk {t g : Addr} {H H' : Hp} {n : Nat} (k : Kp t g H H') (T : Deck H t g n) : Tk H H' := fun b xs e => k b _ e (T.netT e) (T.negT e)

/-! ### a comprehension of drawn things -/
def DeckL (t g D : Addr) (H1 : Hp) (n0 c : Nat) (Pd : PyData → Prop) (i : Nat) (H' : Hp) : Prop :=
  ∃ (vs : List V) (ds : List PyData), H' D = some (.lst vs) ∧ RpAll H' vs ds ∧ ds.length = i ∧ (∀ d ∈ ds, Pd d) ∧ Deck H' t g (n0 + c * i) ∧ Kp t g H1 H'
theorem DeckL.start {t g D : Addr} {H1 : Hp} {n0 c : Nat} {Pd : PyData → Prop} (T : Deck H1 t g n0) (hD : H1 D = none) : DeckL t g D H1 n0 c Pd 0 (upd H1 D (.lst [])) :=
  ⟨[], [], upd_same, .nil, rfl, fun _ h => (nomatch h), (T.new hD).mono (by omega), Kp.new hD⟩
theorem DeckL.deck {t g D : Addr} {H1 H2 : Hp} {n0 c i : Nat} {Pd : PyData → Prop} (h : DeckL t g D H1 n0 c Pd i H2) : Deck H2 t g (n0 + c * i) := by
  obtain ⟨_, _, _, _, _, _, T, _⟩ := h
  exact T
theorem DeckL.step {t g D : Addr} {H1 H2 H4 : Hp} {n0 c i n : Nat} {Pd : PyData → Prop} {y : V} {d : PyData} (h : DeckL t g D H1 n0 c Pd i H2) (T1 : Deck H1 t g n0) (hD : H1 D = none) (hi : i ≤ 1000) (T : Deck H4 t g n) (hn : n ≤ n0 + c * i + c) (k : Kp t g H2 H4) (r : Rp H4 y d) (p : Pd d) :
    ∃ acc, H4 D = some (.lst acc) ∧ acc.length < sizeLine ∧ DeckL t g D H1 n0 c Pd (i + 1) (upd H4 D (.lst (acc ++ [y]))) := by
  obtain ⟨vs, ds, e, ra, hl, hp, T2, k2⟩ := h
  have e4 : H4 D = some (.lst vs) := k D _ e (T1.net hD) (T1.neg hD)
  have tk : Tk H2 (upd H4 D (.lst (vs ++ [y]))) := (k.dk T2).trans (Tk.lst e4)
  refine ⟨vs, e4, by rw [ra.length, hl]; exact small1000 hi, vs ++ [y], ds ++ [d], upd_same, (ra.keep tk).append (.cons (r.keep (Tk.lst e4)) .nil), by simp [hl], fun z hz => ?_, (T.put (T1.net hD) (T1.neg hD)).mono (by rw [Nat.mul_succ]; omega), (k2.trans k).put hD⟩
  rcases List.mem_append.mp hz with q | q
  · exact hp z q
  · rw [List.mem_singleton.mp q]
    exact p
theorem Deck.kfree {t g D : Addr} {H H' : Hp} {n : Nat} (T : Deck H' t g n) (k : Kp t g H H') (hD : H' D = none) : H D = none := by
  cases e : H D with
  | none => rfl
  | some o =>
    have := k _ _ e (T.net hD) (T.neg hD)
    rw [hD] at this
    cases this
/-- the last item of a list -/
theorem at_last {xs : List V} {x : V} : atI (xs ++ [x]) (-1) = some x := by
  unfold atI
  have h : ixN (xs ++ [x]).length (-1) = some xs.length := by
    unfold ixN
    simp
    omega
  first
    | rw [h]; simp
    | simp
theorem ix_last {n : Nat} : ixN (n + 1) (-1) = some n := by
  unfold ixN
  simp
  omega
end Rg

/-! stands -/
namespace Rg
open PySem PySem.Spec L2
/-- a pointer, or None -/
abbrev Pt := Option (Int × Int × Int)
def ptD : Pt → PyData
  | none => .none
  | some (r, s, p) => .tuple [.int r, .int s, .int p]
def memD (m : List (List Wd)) : PyData := .tuple (m.map fun ws => .tuple (ws.map Wd.d))
structure Sd where
  ring : Int
  a : Int
  pt : List Pt
  me : List (List Wd)
def Sd.d (s : Sd) : PyData := .tuple [.int s.ring, .int s.a, .tuple (s.pt.map ptD), memD s.me]
def firstS (xs : List Sg) (r : Int) : Sd := ⟨r, 0, [none, none, none, none], xs.map Sg.ws⟩
theorem okN_mono : ∀ {j k : Nat} {d : PyData}, j ≤ k → okN j d → okN k d
  | 0, _, _, _, h => h.elim
  | j + 1, k + 1, .none, _, _ => trivial
  | j + 1, k + 1, .bool _, _, _ => trivial
  | j + 1, k + 1, .int _, _, _ => trivial
  | j + 1, k + 1, .str _, _, _ => trivial
  | j + 1, k + 1, .dict _, _, h => h.elim
  | j + 1, k + 1, .list ds, hk, h => ⟨h.1, fun e he => okN_mono (Nat.le_of_succ_le_succ hk) (h.2 e he)⟩
  | j + 1, k + 1, .tuple ds, hk, h => ⟨h.1, fun e he => okN_mono (Nat.le_of_succ_le_succ hk) (h.2 e he)⟩
theorem okN_map {α : Type} {f : α → PyData} {j : Nat} {xs : List α} (hl : xs.length ≤ 1000) (h : ∀ x ∈ xs, okN j (f x)) : okN (j + 1) (.tuple (xs.map f)) := by
  refine ⟨by rw [List.length_map]; omega, fun e he => ?_⟩
  obtain ⟨x, hx, rfl⟩ := List.mem_map.mp he
  exact h x hx
theorem okN_mapL {α : Type} {f : α → PyData} {j : Nat} {xs : List α} (hl : xs.length ≤ 1000) (h : ∀ x ∈ xs, okN j (f x)) : okN (j + 1) (.list (xs.map f)) := by
  refine ⟨by rw [List.length_map]; omega, fun e he => ?_⟩
  obtain ⟨x, hx, rfl⟩ := List.mem_map.mp he
  exact h x hx
theorem pt_ok (p : Pt) : okN 2 (ptD p) := by
  match p with
  | none => trivial
  | some (r, s, p) => exact ⟨by show 3 ≤ 1000000; decide, ok_ints [r, s, p] 0⟩
theorem mem_ok {m : List (List Wd)} (h1 : m.length ≤ 1000) (h2 : ∀ ws ∈ m, ws.length ≤ 1000) : okN 4 (memD m) := okN_map h1 fun ws hw => okN_map (h2 ws hw) fun x _ => x.ok
theorem Sd.ok {s : Sd} (h1 : s.pt.length ≤ 1000) (h2 : s.me.length ≤ 1000) (h3 : ∀ ws ∈ s.me, ws.length ≤ 1000) : okN 5 s.d := by
  refine ⟨by show 4 ≤ 1000000; decide, fun e he => ?_⟩
  rcases List.mem_cons.mp he with rfl | he
  · trivial
  rcases List.mem_cons.mp he with rfl | he
  · trivial
  rcases List.mem_cons.mp he with rfl | he
  · exact okN_mono (j := 3) (by decide) (okN_map h1 fun p _ => pt_ok p)
  rcases List.mem_cons.mp he with rfl | he
  · exact mem_ok h2 h3
  cases he
/-- what first tells -/
def spFirst (C NR : Addr) : Sp := fun vs H Q E => ∃ (x : Addr) (us : List V) (xs : List Sg) (b r : Int), vs = [.ref x, .int r] ∧ MAt C H x us b ∧ RpAll H us (xs.map Sg.d) ∧ xs.length ≤ 900 ∧ r.natAbs.log2 < 1920 ∧
  (below r 8 = true → ∀ (v : V) (H' : Hp), Same H H' → Rp H' v (firstS xs r).d → Q v H') ∧
  (below r 8 = false → ∀ (d : Addr) (H' : Hp), H d = none → H' d = some (.xd [("what", .int r)]) → Same H H' → E (.ref NR) (some d) H')
theorem use_first {C NR x : Addr} {us : List V} {xs : List Sg} {b r : Int} {H : Hp} {Q : VK} {E : XK} (hM : MAt C H x us b) (ra : RpAll H us (xs.map Sg.d)) (hl : xs.length ≤ 900) (h0 : 0 ≤ r) (h8 : r < 8) (k : ∀ (v : V) (H' : Hp), Same H H' → Rp H' v (firstS xs r).d → Q v H') : spFirst C NR [.ref x, .int r] H Q E :=
  ⟨x, us, xs, b, r, rfl, hM, ra, hl, by
    have : r.natAbs < 2 ^ 10 := by omega
    exact Nat.lt_of_lt_of_le (PySem.Flt.log2_lt_of (by decide) this) (by decide), fun _ => k, fun hb => by rw [below_of h0 h8] at hb; cases hb⟩
end Rg

/-! for i, a in enumerate(tuple): the pairs are new tuples -/
namespace Rg
open PySem PySem.Spec PyProof.Rows L2
theorem meets_en1 {v : Value} {oi : Obj} {Hb : Heap → Prop} (Bg : Begins v oi Hb) :
    Meets (Builtin.«enumerate.__new__» ⟨[.type "enumerate", v], []⟩) (fun _ R z => Hb z.heap ∧ R (.ok (.ret (.ref (z.heap.push oi).objs.size))) { z with heap := (z.heap.push oi).push { cls := .type "enumerate", data := .fields #[.none, .bool false, .ref z.heap.objs.size, rawInt 0, .none, .none] } }) :=
  .of_wp fun prog w A R z hz => by
    obtain ⟨hp, gn, dn, tn, on⟩ := z
    obtain ⟨hb, hz⟩ := hz
    have hsub := sub_enumerate
    have go : ∀ {A' : Around} {E : Value → Shared → Prop} {Q : Value → Shared → Prop}, Q (.ref hp.objs.size) ⟨hp.push oi, gn, dn, tn, on⟩ → wpAny (model prog w) A' (pyIter v) Q E ⟨hp, gn, dn, tn, on⟩ := fun q => Bg.iter prog w _ _ _ _ hb q
    wp_walk using go
    refine wpAny_stack_any fun st => wpAny_pure ?_
    split
    · rename_i c _ _ _ _ _
      cases (c == Value.type "enumerate") <;> (wp_walk using go; exact ⟨_, rfl, hz⟩)
    · wp_walk using go; exact ⟨_, rfl, hz⟩
theorem enum_begin1 {prog : Program} {w : World} {A : Around} {E : Value → Shared → Prop} {z : Shared} {v : Value} {oi : Obj} {Hb : Heap → Prop} {Q : Value → Shared → Prop} (Bg : Begins v oi Hb) (hb : Hb z.heap)
    (k : ∀ h', IsEnum h' (z.heap.objs.size + 1) z.heap.objs.size 0 .none → h'.get? z.heap.objs.size = some oi → (∀ b o, z.heap.get? b = some o → h'.get? b = some o) → Q (.ref (z.heap.objs.size + 1)) { z with heap := h' }) :
    wpAny (model prog w) A (call (.type "enumerate") [v]) Q E z := by
  have sz : (z.heap.push oi).objs.size = z.heap.objs.size + 1 := Heap.size_push ..
  refine callType_new F.called_enumerate (by decide) (F.typeCall_enumerate_1 v) (F.newCall_enumerate_1 v) (fun obj => F.args_object_init_2 obj v) F.entry_enumerate_new (meets_en1 Bg) ⟨hb, ?_⟩
  show _ ∧ _
  rw [sz]
  have en := Heap.get?_push_size (z.heap.push oi) (o := { cls := .type "enumerate", data := .fields #[.none, .bool false, .ref z.heap.objs.size, rawInt 0, .none, .none] }) rfl
  rw [sz] at en
  exact ⟨⟨_, en, rfl⟩, k _ en (Heap.get?_push_of_some _ (Heap.get?_push_size _ Bg.free)) fun b o x => Heap.get?_push_of_some _ (Heap.get?_push_of_some _ x)⟩
/-- the items of a tuple with their places -/
def ItEt (K : PySem.W.Frag) (b : Addr) : It :=
  ⟨fun i H => ∃ (ys : List V) (y : V), SqT K H b ys ∧ ys[i]? = some y,
    fun i H v H' => ∃ T y, v = .ref T ∧ H T = none ∧ H' = upd H T (.tup [.int (i : Nat), y]) ∧ ∀ ys, SqT K H b ys → ys[i]? = some y,
    fun i H => ∃ ys : List V, SqT K H b ys ∧ i = ys.length⟩
theorem turn_enT {P : Program} {w : World} {K : PySem.W.Frag} {elts : List Expr} {kk : Nat} {tpos : Pos} {b e it : Addr} (h1 : e ≠ it) (h2 : b ≠ it) (h3 : b ≠ e) :
    Turn P w K (.Tuple elts kk tpos) (ItEt K b) [e, it] e (fun i h => (∃ old, IsEnum h e it ((0 : Int) + ((i : Nat) : Int)) old) ∧ h.IsTupleIter it b i) where
  mem := by simp
  obj := fun i h st c hc => by
    obtain ⟨⟨old, he⟩, ⟨o2, g2, _, d2⟩⟩ := st
    have cc : c = e ∨ c = it := by simpa using hc
    rcases cc with q | q
    · rw [q]; exact ⟨_, he, fun v q => nomatch q⟩
    · rw [q]; exact ⟨o2, g2, fun v q => by rw [d2] at q; cases q⟩
  keep := fun i h h' st k => let ⟨⟨old, he⟩, hi⟩ := st; ⟨⟨old, k e (by simp) _ he⟩, hi.at fun o q => k it (by simp) o q⟩
  item := by
    intro X hP hw hK hc i pins s σ H E I hf st hg
    subst hP hw hK
    obtain ⟨he, hi⟩ := st
    obtain ⟨ys, y, hqy, hy⟩ := hg
    obtain ⟨its, rv, pt, _⟩ := I.tuple hqy
    have hh : X.A.in1.handled = none := I.ok.hd hc
    have W := GoesN.enumFrom (elts := elts) (x1 := kk) (pos := tpos) 0 (Draws.tuple hh it b h2 its.toArray) e h1 (by simp [h1, Ne.symm h3]) (by simp) (prog := X.prog) (w := X.w) (A := X.A)
    have hlen : i < its.toArray.size := by
      have a2 : i < ys.length := (List.getElem?_eq_some_iff.mp hy).1
      have a3 := rv.length
      rw [List.size_toArray]
      omega
    refine W.goes i s _ _ hlen ⟨he, hi, pt⟩ fun v h' tk hY st' hk htk => ?_
    obtain ⟨T, t, u2, rfl, hT, hu2, hTup⟩ := hY
    obtain ⟨he', hi', _⟩ := st'
    obtain ⟨v2, hv2, rv2⟩ := rv.get hy
    have e2 : u2 = v2 := by
      rw [List.getElem?_toArray] at hu2
      exact Option.some.inj (hu2.symm.trans hv2)
    subst e2
    have ei : (0 : Int) + (i : Int) = (i : Int) := Int.zero_add _
    rw [ei] at hTup
    have new : ObjOk X.prog X.w (upd H T (.tup [.int (i : Nat), y])) h' T (.tup [.int (i : Nat), y]) := ⟨by show 2 ≤ sizeLine; decide, [.int i t, u2], .cons ⟨_, rfl⟩ (.cons rv2 .nil), hTup⟩
    have I1 := I.turnedNew (t' := tk) (ch := [e, it]) hk hf hT new
    refine ⟨.ref T, _, I1, rfl, ⟨T, y, rfl, I.hok.fresh hT, rfl, fun l hl => by rw [I.tuple_inj hl hqy]; exact hy⟩, ⟨he', hi'⟩, fun c hc' => ?_⟩
    have lt : c < s.heap.objs.size := by
      obtain ⟨old, g1⟩ := he
      obtain ⟨_, g2, _⟩ := hi
      have cc : c = e ∨ c = it := by simpa using hc'
      rcases cc with q | q
      · rw [q]; exact Heap.lt_size g1
      · rw [q]; exact Heap.lt_size g2
    rw [upd_ne (Nat.ne_of_lt (Nat.lt_of_lt_of_le lt hT))]
    exact (hf c hc').1
  done := by
    intro X hP hw hK hc i pins s σ H E I hf st hg
    subst hP hw hK
    obtain ⟨he, hi⟩ := st
    obtain ⟨ys, hqy, hl⟩ := hg
    obtain ⟨its, rv, pt, _⟩ := I.tuple hqy
    have hh : X.A.in1.handled = none := I.ok.hd hc
    have W := GoesN.enumFrom (elts := elts) (x1 := kk) (pos := tpos) 0 (Draws.tuple hh it b h2 its.toArray) e h1 (by simp [h1, Ne.symm h3]) (by simp) (prog := X.prog) (w := X.w) (A := X.A)
    have ee : i = its.toArray.size := by rw [List.size_toArray, ← rv.length]; exact hl
    subst ee
    exact W.stops s _ _ ⟨he, hi, pt⟩ fun h' tk hk htk => I.turnedL (t' := tk) (ch := [e, it]) hk hf
  self := fun A i s Q E st h => let ⟨⟨_, he⟩, _⟩ := st; wpAny_pyIter_enum he h
def iEnT (K : PySem.W.Frag) (ta : TA) : TI := fun σ H R => ta σ H fun vs H1 => ∃ (b : Addr) (ys : List V), vs = [.ref b] ∧ SqT K H1 b ys ∧ R (ItEt K b) H1
theorem pi_enT {X : Cx} {K : PySem.W.Frag} {e : Expr} {ta : TA} {p pos tpos : Pos} {elts : List Expr} {kk : Nat} (hg : Gl X "enumerate") (hm : X.mg "enumerate" = none) (ha : PA X [e] ta) (hK : X.K = K := by rfl) (hs : starEach [e] X.env = [(false, eval e X.env)] := by rfl) :
    PI X (.Tuple elts kk tpos) (.Call (.Name "enumerate" p) [e] [] pos) (iEnT K ta) := by
  subst hK
  refine ⟨fun pins s σ H R I h => Call_ (ld_blt I hg hm boot_enumerate (PyProof.Rows.callWith_type1 (thn (ha.run pos pins s σ H _ I h) fun us z ⟨vs, H1, I1, r1, q1⟩ => ?_) hs rfl))⟩
  obtain ⟨b, ys, ex, hqy, q⟩ := q1
  subst ex
  cases r1 with
  | cons r rr =>
    cases rr
    cases r
    obtain ⟨its, rv, pt, _⟩ := I1.tuple hqy
    obtain ⟨o2, ho2, _⟩ := id pt
    have hb : b < z.heap.objs.size := Heap.lt_size ho2
    refine enum_begin1 (begins_tuple b its.toArray) pt fun h' he hi hk => wpAny_pyIter_enum he ?_
    have I2 : L2.Inv X pins σ H1 { z with heap := h' } := I1.kept (t' := z.toks) hk
    refine ⟨z.heap.objs.size + 1, [z.heap.objs.size + 1, z.heap.objs.size], _, _, H1, rfl, I2, turn_enT (b := b) (e := z.heap.objs.size + 1) (it := z.heap.objs.size) (Nat.succ_ne_self _) (Nat.ne_of_lt hb) (Nat.ne_of_lt (Nat.lt_succ_of_lt hb)), ⟨⟨.none, he⟩, ⟨_, hi, rfl, rfl⟩⟩, fun c hc => ?_, q⟩
    have cc : c = z.heap.objs.size + 1 ∨ c = z.heap.objs.size := by simpa using hc
    have le : z.heap.objs.size ≤ c := by rcases cc with q | q <;> rw [q] <;> first | exact Nat.le_succ _ | exact Nat.le_refl _
    exact I1.fpOk le (I1.hok.fresh le)
theorem rd_ienT {K : PySem.W.Frag} {ta : TA} {σ : L2.St} {H : Hp} {R : It → Hp → Prop} (h : ta σ H fun vs H1 => ∃ (b : Addr) (ys : List V), vs = [.ref b] ∧ SqT K H1 b ys ∧ R (ItEt K b) H1) : iEnT K ta σ H R := h
theorem walk_enT {K : PySem.W.Frag} {b : Addr} {ys : List V} {n : Nat} (hn : n = ys.length) : Walk (ItEt K b) n (fun H => SqT K H b ys) (fun i H v H' => ∃ T y, v = .ref T ∧ H T = none ∧ H' = upd H T (.tup [.int (i : Nat), y]) ∧ ys[i]? = some y) := by
  subst hn
  refine ⟨fun i H hi q => ⟨ys, ys[i], q, List.getElem?_eq_getElem hi⟩, fun H q => ⟨ys, q, rfl⟩, fun i H v H' hi q y => ?_⟩
  obtain ⟨T, y, a1, a2, a3, a4⟩ := y
  exact ⟨T, y, a1, a2, a3, a4 ys q⟩
end Rg

/-! an own error over Exception, made by an own __init__ -/
namespace Rg
open PySem PySem.Spec PyProof.Rows L2
/-- what the written part says of such a class -/
structure OexE (K : PySem.W.Frag) (C : Addr) : Prop where
  cls : ∃ nm q N bs sn sub ab col dd k0 k1 k2 k3 k5, K.lookup C = some (excClassObj nm q C N bs PySem.ESX.exTail true sn sub ab col dd k0 k1 k2 k3 k5 "Exception.__new__")
  sa : PySem.W.findIn K (.ref C) "__setattr__" = some (some (.builtin "object.__setattr__"))
  exC : PySem.W.subIn K (.ref C) (.type "BaseException") = some true
  tyC : PySem.W.typeIn K (.ref C) = some (.type "type")
  kC : PySem.W.keepIn K (.ref C) = true
section
variable {X : Cx} {pins : List (Addr × Obj)} {σ : L2.St} {H : Hp} {s : Shared} {a C : Addr} {f : Str} {y : V} {u : Value}
/-- the error gets its dict: the heap that follows -/
theorem inv_dict {hp h' : Heap} {g : Array GenState} {dr : Drawn} {t tk : Nat} {os : OsState} {dx : Addr} (I : L2.Inv X pins σ H ⟨hp, g, dr, t, os⟩) (e : H a = some (exo a C none)) (ry : RelV y u) (k : ∀ b o, b ≠ a → hp.get? b = some o → h'.get? b = some o) (dn : hp.objs.size ≤ dx) (dne : dx ≠ a)
    (hx : h'.get? a = some { cls := .ref C, dict := some dx, data := .fields #[.ref tk, .none, .none, .none, .bool false, .none] }) (hn : h'.Ns1 dx (fun z => if z = f then some u else none)) (t' : Nat) :
    H dx = none ∧ L2.Inv X pins σ (upd (upd H dx (exd dx [(f, y)])) a (exo a C (some dx))) ⟨h', g, dr, t', os⟩ := by
  have nd : H dx = none := I.hok.fresh dn
  have old : ∀ {b : Addr} {o : Obj}, hp.get? b = some o → b ≠ dx := fun q => Nat.ne_of_lt (Nat.lt_of_lt_of_le (Heap.lt_size q) dn)
  have noa : ∀ {b : Addr}, H b = none → b ≠ a := fun n z => by rw [z, e] at n; cases n
  refine ⟨nd, I.un (t' := t') ?_ fun b o q => ?_⟩
  · exact
    { keep := fun b o q n _ _ => k b o (noa n) q
      slot := fun b o q n _ _ => ⟨o.slots, k b o (noa n) q⟩
      free := fun b o q n _ => (upd_ne (noa n)).trans ((upd_ne (old q)).trans n)
      there := fun b o q _ => if hb : b = a then ⟨_, hb ▸ hx⟩ else ⟨o, k b o hb q⟩
      tups := fun b xs q => (upd_ne (at_ne e q exo_tup)).trans ((upd_ne (ne_of_none q nd)).trans q)
      frzs := fun b o v q => (upd_ne (at_ne e q exo_frz)).trans ((upd_ne (ne_of_none q nd)).trans q)
      tbls := fun b ps q => ⟨#[], by rw [upd_ne (at_ne e q exo_tbl), upd_ne (ne_of_none q nd), q]; simp⟩ }
  · by_cases h1 : b = a
    · subst h1
      rw [upd_same] at q
      cases q
      exact exo_ok hx
    rw [upd_ne h1] at q
    by_cases h2 : b = dx
    · subst h2
      rw [upd_same] at q
      cases q
      exact exd_ok hn (relO_put (fs := []) ry fun _ => True.intro)
    rw [upd_ne h2] at q
    refine (I.hok b o q).stay (fun c v hc z => k c v ?_ z) (fun c hc => ?_) (fun c xs hc => ?_)
    · rcases hc with hc | hc
      · exact hc ▸ h1
      · exact at_ne e hc exo_own
    · exact (upd_ne (at_ne e hc exo_own)).trans ((upd_ne (ne_of_none hc nd)).trans hc)
    · exact (upd_ne (at_ne e hc exo_tup)).trans ((upd_ne (ne_of_none hc nd)).trans hc)
theorem est_new {A : Around} {Q : Unit → Shared → Prop} {E : Value → Shared → Prop} (T : OexE X.K C) (I : L2.Inv X pins σ H s) (e : H a = some (exo a C none)) (hno : PySem.W.findIn X.K (.ref C) f = some none) (ry : RelV y u)
    (h : ∀ dx s', H dx = none → dx ≠ a → L2.Inv X pins σ (upd (upd H dx (exd dx [(f, y)])) a (exo a C (some dx))) s' → Q () s') : wpAny (model X.prog X.w) A (setAttr (.ref a) f u) Q E s := by
  obtain ⟨nm, q, N, bs, sn, sub, ab, col, dd, k0, k1, k2, k3, k5, hC⟩ := T.cls
  have cd : PySem.W.clsIn X.K C = some { name := nm, bases := bs, mro := .ref C :: PySem.ESX.exTail, ns := N, qualname := q, hasDict := true, slotNames := sn, subclasses := sub, abstract := ab, collection := col, hasDel := false } := by unfold PySem.W.clsIn; rw [hC] <;> rfl
  obtain ⟨tk, ho⟩ := exo_at I.hok e
  obtain ⟨hp, g, d, t, os⟩ := s
  refine PySem.W.set_plain I.kIn (ox := { cls := .ref C, dict := none, data := .fields #[.ref tk, .none, .none, .none, .bool false, .none] }) (od := none) ⟨ho, rfl, rfl, trivial⟩ T.sa ?_
  refine PySem.ESX.osa_new I.kIn ho cd rfl rfl hno fun h' t' dx k dn dne hx hn => ?_
  obtain ⟨n1, J⟩ := inv_dict (t' := t') I e ry k dn dne hx hn
  exact h dx _ n1 dne J
theorem ein_ok {A : Around} {us : List Value} {Q : Value → Shared → Prop} {E : Value → Shared → Prop} (T : OexE X.K C) (I : L2.Inv X pins σ H s) (e : H a = some (exo a C none)) (hl : us.length ≤ sizeLine) (h : ∀ s', L2.Inv X pins σ H s' → Q .none s') :
    wpAny (model X.prog X.w) A (call (.builtin "Exception.__init__") (.ref a :: us)) Q E s := by
  obtain ⟨nm, q, N, bs, sn, sub, ab, col, dd, k0, k1, k2, k3, k5, hC⟩ := T.cls
  obtain ⟨tk, ho⟩ := exo_at I.hok e
  obtain ⟨hp, g, d, t, os⟩ := s
  refine wpAny_call (PySem.HandSPX.init_base F.excBase_Exception (fun _ => rfl) (I.kIn _ _ hC) ho hl fun h' t2 k hx => h _ ?_)
  have J := I.write (t' := t) (x := a) (e := a) (o := exo a C none) (e ▸ True.intro) (.inl rfl) k ⟨_, hx⟩ (exo_ok hx)
  have eu : upd H a (exo a C none) = H := funext fun b => if hb : b = a then by rw [hb, upd_same, e] else upd_ne hb
  rwa [eu] at J
end
/-- Exception.__init__(self, ..) -/
def tEnI (K : PySem.W.Frag) (ta : TA) : TE := fun σ H Q => ta σ H fun vs H1 => ∃ (a C : Addr) (ws : List V), vs = .ref a :: ws ∧ ws.length ≤ 1000 ∧ OexE K C ∧ H1 a = some (exo a C none) ∧ Q .non H1
/-- self.f = e, the first one -/
def tEst (K : PySem.W.Frag) (f : Str) (to te : TE) : TS := fun D σ H => te σ H fun y H1 => to σ H1 fun x H2 => ∃ a C : Addr, x = .ref a ∧ OexE K C ∧ PySem.W.findIn K (.ref C) f = some none ∧ H2 a = some (exo a C none) ∧ ∀ dx, H2 dx = none → dx ≠ a → D.nx σ (upd (upd H2 dx (exd dx [(f, y)])) a (exo a C (some dx)))
theorem typ_Exc : typeOf (.type "Exception") = pure (.type "type") := by kernel_rfl
section
variable {X : Cx} {o e : Expr} {es : List Expr} {to te : TE} {ta : TA} {f : Str} {p p' p1 p2 pos : Pos}
theorem pe_eninit {pl : Sem Bool} (hg : Gl X "Exception") (hm : X.mg "Exception" = none) (vE : PySem.W.findCls X.K (.type "Exception") (.type "type") "__init__" = some (.val (.builtin "Exception.__init__"))) (ha : PA X (e :: es) ta)
    (hc : eval (.Call (.Attribute (.Name "Exception" p1) "__init__" p2) (e :: es) [] pos) X.env = (do
      let ov ← eval (.Name "Exception" p1) X.env
      standAt p2.atName
      let (f, first) ← holding [ov] (getMethod ov "__init__" pl)
      callWith pos f first (backTo pos (starEach (e :: es) X.env)) (backToKw pos (keywordEach [] X.env))) := by rfl)
    (hst : starEach (e :: es) X.env = (false, eval e X.env) :: starEach es X.env := by rfl) (hpl : (backTo pos (starEach es X.env)).any (·.1) = false := by rfl) :
    PE X (.Call (.Attribute (.Name "Exception" p1) "__init__" p2) (e :: es) [] pos) (tEnI X.K ta) := by
  refine ⟨fun pins s σ H Q I h => PySem.W.methodCall_KW (ld_blt I hg hm PyProof.Rows.Boot.«Exception» ?_ (by decide) (by decide)) hc⟩
  obtain ⟨m, fr⟩ := I.fr
  refine PySem.W.method_type fr I.ok.mod.kin typ_Exc (by decide +kernel) vE (by decide +kernel) ?_
  show wpAny _ _ (callWith pos (Value.builtin "Exception.__init__") [] (backTo pos (starEach (e :: es) X.env)) []) _ _ _
  refine PyProof.Rows.callWith_method1 (thn (ha.run pos pins _ σ H _ (I.tok _) h) fun us z ⟨vs, H1, I1, r1, a, C, ws, ev, hl, T, ea, q⟩ => ?_) hst hpl
  subst ev
  cases r1 with
  | cons ra rr =>
    cases ra
    exact ein_ok T I1 ea (by rw [← Paired.length rr, sizeLine_eq]; omega) fun s' J => ⟨.non, H1, J, rfl, q⟩
theorem ps_est (ho : PE X o to) (he : PE X e te) (hs : swapsWith e (some (.Attribute o f p')) pos.line X.env = pure false := by rfl) : PS X (.Assign [.Attribute o f p'] e pos) (tEst X.K f to te) := by
  refine ⟨fun pins s σ H D I h => plainObj_wpAny_Assign_Attribute (thn (he.run pins s σ H _ I h) fun v z ⟨y, H1, I1, r1, q1⟩ => thn (ho.run pins z σ H1 _ I1 q1) fun u z2 ⟨x, H2, I2, r2, a, C, ex, T, hno, ea, q⟩ => ?_) hs⟩
  subst ex
  cases r2
  exact est_new T I2 ea hno r1 fun dx s' n ne J => ⟨σ, _, J, q dx n ne⟩
/-- what the error's __init__ does -/
def spFE (K : PySem.W.Frag) : Sp := fun vs H Q _ => ∃ (a C : Addr) (v : V), vs = [.ref a, v] ∧ OexE K C ∧ PySem.W.findIn K (.ref C) "cause" = some none ∧ H a = some (exo a C none) ∧
  ∀ d, H d = none → d ≠ a → Q .non (upd (upd H d (exd d [("cause", v)])) a (exo a C (some d)))
/-- Fault(e): an error with its field -/
theorem pmk_fault {x : Str} {C fI : Addr} {k : Nat} {fd : FuncData} {ps : List Str} (T : OexE X.K C) (hw : PySem.W.findIn X.K (.ref C) "cause" = some none) (iC : PySem.W.findIn X.K (.ref C) "__init__" = some (some (.ref fI))) (tI : PySem.W.typeIn X.K (.ref fI) = some (.type "function"))
    (F1 : FnOk X.prog X.w X.K X.mg X.base CX0 k fI fd ps (spFE X.K)) (hr : Room (k + 1) X.A) (hb : Binds X.K fd ps []) (hg : Gl X x) (hm : X.mg x = some (.ref C)) (ha : PE X e te)
    (hdb : (x == ("__debug__" : Str)) = false := by decide) (hst : starEach [e] X.env = (false, eval e X.env) :: starEach [] X.env := by rfl) (hpl : (backTo pos (starEach [] X.env)).any (·.1) = false := by rfl) :
    L2N.PMk X (.Call (.Name x p) [e] [] pos) (fun σ H Q => te σ H fun v H1 => ∀ d, H1 d = none → Q (.ref C) (some d) (upd H1 d (.xd [("cause", v)]))) := by
  intro pins s σ H Q I h
  obtain ⟨nm, q, N, bs, sn, sub, ab, col, dd, k0, k1, k2, k3, k5, hC⟩ := T.cls
  refine wpAny_Call_Name_kw (ld_glob I hg hm (PySem.W.callWith_K (h₀ := X.base) I.ok.mod.kin T.kC (thn ((pa_cons ha pa_nil hst).run pos pins s σ H (fun vs H1 => ∃ v, vs = [v] ∧ ∀ d, H1 d = none → Q (.ref C) (some d) (upd H1 d (.xd [("cause", v)]))) I ?_) fun us z ⟨vs, H1, I1, r1, q1⟩ => ⟨I1.kIn, ?_⟩) hst hpl) hdb)
  · have : te σ H (fun v H1 => ∀ d, H1 d = none → Q (.ref C) (some d) (upd H1 d (.xd [("cause", v)]))) := h
    show te σ H fun v H1 => ∃ v', [v] = [v'] ∧ ∀ d, H1 d = none → Q (.ref C) (some d) (upd H1 d (.xd [("cause", v')]))
    have e1 : (fun (v : V) (H1 : Hp) => ∃ v', [v] = [v'] ∧ ∀ d, H1 d = none → Q (.ref C) (some d) (upd H1 d (.xd [("cause", v')]))) = fun v H1 => ∀ d, H1 d = none → Q (.ref C) (some d) (upd H1 d (.xd [("cause", v)])) := by
      funext v H1
      apply propext
      constructor
      · rintro ⟨v', ev, q⟩
        cases ev
        exact q
      · exact fun q => ⟨v, rfl, q⟩
    rw [e1]
    exact this
  obtain ⟨v, rfl, q1⟩ := q1
  show wpAny _ _ (call (.ref C) us) _ _ _
  obtain ⟨hp, g, dr, tk, os⟩ := z
  have sz : hp.objs.size ≤ hp.objs.size + 1 := Nat.le_succ _
  have n1 : H1 (hp.objs.size + 1) = none := I1.hok.fresh sz
  have kk : ∀ b o, hp.get? b = some o → ((hp.push (PySem.W.kdv_tup us)).push (PySem.HandSPX.excO C hp.objs.size)).get? b = some o := fun b o e => Heap.get?_push_of_some _ (Heap.get?_push_of_some _ e)
  have gt : ((hp.push (PySem.W.kdv_tup us)).push (PySem.HandSPX.excO C hp.objs.size)).get? (hp.objs.size + 1) = some (PySem.HandSPX.excO C hp.objs.size) := by heap_get
  have I2 : L2.Inv X pins σ (upd H1 (hp.objs.size + 1) (exo (hp.objs.size + 1) C none)) ⟨(hp.push (PySem.W.kdv_tup us)).push (PySem.HandSPX.excO C hp.objs.size), g, dr, tk, os⟩ := I1.laid (t' := tk) kk sz (exo_ok gt)
  have r2 : Vals [V.ref (hp.objs.size + 1), v] (Value.ref (hp.objs.size + 1) :: us) := .cons rfl r1
  have sp1 : spFE X.K [.ref (hp.objs.size + 1), v] (upd H1 (hp.objs.size + 1) (exo (hp.objs.size + 1) C none)) (fun w H2 => w = .non ∧ ∃ d, H1 d = none ∧ d ≠ hp.objs.size + 1 ∧ H2 = upd (upd (upd H1 (hp.objs.size + 1) (exo (hp.objs.size + 1) C none)) d (exd d [("cause", v)])) (hp.objs.size + 1) (exo (hp.objs.size + 1) C (some d))) (fun _ _ _ => False) :=
    ⟨_, C, v, rfl, T, hw, upd_same, fun d hd ne => ⟨rfl, d, by rw [upd_ne ne] at hd; exact hd, ne, rfl⟩⟩
  have hl : (Value.ref (hp.objs.size + 1) :: us).length = ps.length := r2.length.symm.trans (F1.len _ _ _ _ sp1)
  have lu : us.length ≤ sizeLine := by rw [← Paired.length r1, sizeLine_eq]; show 1 ≤ _; decide
  have b0 := hb ⟨(hp.push (PySem.W.kdv_tup us)).push (PySem.HandSPX.excO C hp.objs.size), g, dr, tk, os⟩ (Value.ref (hp.objs.size + 1) :: us) I2.kIn (by rw [List.append_nil]; exact hl)
  rw [List.append_nil] at b0
  refine wpAny_call (PySem.HandSPX.call_own F.excBase_Exception (fun _ => rfl) (I1.kIn _ _ hC) (PySem.W.looks_findIn I1.kIn iC) (fun self => PySem.W.bind_fn I1.kIn self tI) lu (codeAny_mono (F1.run _ X.stack _ _ ⟨Value.ref (hp.objs.size + 1) :: us, []⟩ (Value.ref (hp.objs.size + 1) :: us) _ _ (fun _ _ _ => False) (hr.make C us []) (I2.env0.make C us []) b0 r2 sp1) fun r s' hq => ?_))
  match r, hq with
  | .error er, hq => exact pass0 pins σ _ _ er s' I2 hq
  | .ok (.ret w), hq =>
    obtain ⟨v', H2, os2, bare2, un2, hok2, rv, ev, d, hd1, hne, e2⟩ := hq
    subst ev
    obtain ⟨h2, g2, d2, t2, os'⟩ := s'
    have ea : H2 (hp.objs.size + 1) = some (exo (hp.objs.size + 1) C (some d)) := by rw [e2, upd_same]
    have ed : H2 d = some (exd d [("cause", v)]) := by rw [e2, upd_ne hne, upd_same]
    obtain ⟨t0, G, J, kG, ge, hoe, na⟩ := mk_end0 (d2 := d2) (t2 := t2) I1 sz kk un2 hok2 os2 bare2 ea ed hd1
    refine ⟨rv, hp.objs.size + 1, _, _, ⟨G, g2, d2, t2, os'⟩, _, .ref C, some d, rfl, J, kG, ge, hoe, ⟨rfl, rfl, fun z hz => by cases hz; rfl⟩, rfl, rfl, na, rfl, bare2, raises_own T.exC T.tyC, ?_⟩
    have eH : upd (del H2 (hp.objs.size + 1)) d (.xd [("cause", v)]) = upd H1 d (.xd [("cause", v)]) := by
      funext b
      by_cases h1 : b = d
      · rw [h1, upd_same, upd_same]
      · rw [upd_ne h1, upd_ne h1]
        by_cases h2 : b = hp.objs.size + 1
        · rw [h2, del_same, n1]
        · rw [del_ne h2, e2, upd_ne h2, upd_ne h1, upd_ne h2]
    rw [eH]
    exact q1 d hd1
  | .ok .next, hq => exact False.elim hq
  | .ok .brk, hq => exact False.elim hq
  | .ok .cont, hq => exact False.elim hq
end
/-- as Fun.okX, where the error's context is told too -/
theorem Fun.okN {P : Program} {w : World} {K : PySem.W.Frag} {mg : Str → Option Value} {base : Heap} {x qual : Str} {st : Stmt} {f : Addr} {fd : FuncData} {N ps : List Str} {k : Nat} {sp : Sp} (F : L2.Fun K x qual st f fd) (S : FnScope N ps (defScope st)) (len : ∀ vs H Q E, sp vs H Q E → vs.length = ps.length)
    (body : ∀ (cdv : Value) (A : Around) (outer : List Env) (s : Shared) (H : Hp) (vs : List V) (Q : VK) (E : XK), Room k (A.deeper (envOfC qual (defScope st) s.heap.objs.size f cdv)) → sp vs H Q E →
      ∃ t, PSs (cxOf (L2N.CX P w) P w K mg base N qual (defScope st) f cdv A outer s H E) (defBody st) t ∧ t { nx := fun _ H' => Q .non H', rt := Q } (L2.start N vs) H) : FnOk P w K mg base (L2N.CX P w) (k + 1) f fd ps sp := by
  obtain ⟨oc, od, kV, doc, pm, an, cdv, ct, osl, rfl, lk, hcd⟩ := F.ex
  exact fn_of lk hcd S len fun A outer s H vs Q E hr h => body cdv A outer s H vs Q E hr h
end Rg

/-! a deed while it is done: the mirror, and the object that bears it -/
namespace Rg
open PySem PySem.Spec L2
/-- the state of a run -/
structure Rn where
  ring : Int
  a : Int
  pt : List Pt
  me : List (List Wd)
  wh : Option (Int × Int)
  ca : List (Int × Option (Int × Int))
  st : List (Int × Int × Int × Int)
  to : List (Int × Int × Int × Str)
def whD : Option (Int × Int) → PyData
  | none => .none
  | some (g, p) => .tuple [.int g, .int p]
def caD (c : Int × Option (Int × Int)) : PyData := .tuple [.int c.1, whD c.2]
def stD (c : Int × Int × Int × Int) : PyData := .tuple [.int c.1, .int c.2.1, .int c.2.2.1, .int c.2.2.2]
def toD (c : Int × Int × Int × Str) : PyData := .tuple [.int c.1, .int c.2.1, .int c.2.2.1, .str c.2.2.2]
def mx (i j : Int) : Int := if j > i then j else i
def sgAt (xs : List Sg) (g : Int) : Sg := xs.getD g.toNat dSg
def Rn.ptr (s : Rn) (p : Int) : Pt := s.pt.getD p.toNat none
def Rn.mem (s : Rn) (g : Int) : List Wd := s.me.getD g.toNat []
/-- where a pointer leads to -/
def spotR (s : Rn) (p w : Int) : Except Str (Int × Int × Int) := match s.ptr p with
  | none => .error "pointer"
  | some (r, g, pl) => if 0 ≤ pl + w ∧ pl + w < ((s.mem g).length : Int) then .ok (mx s.ring r, g, pl + w) else .error "bounds"
def Rn.touch (s : Rn) (e g p : Int) (w : Str) : Rn := { s with to := s.to ++ [(e, g, p, w)] }
def Rn.wordAt (s : Rn) (g p : Int) : Wd := (s.mem g).getD p.toNat (.num 0)
def Rn.put (s : Rn) (g p : Int) (x : Wd) : Rn := { s with me := s.me.set g.toNat ((s.mem g).set p.toNat x) }
def Rn.ptrSet (s : Rn) (q : Int) (x : Pt) : Rn := { s with pt := s.pt.set q.toNat x }
def readR (xs : List Sg) (s : Rn) (p w : Int) : Except Str (Wd × Int × Int × Rn) := match spotR s p w with
  | .error c => .error c
  | .ok (e, g, pl) => if mRead (sgAt xs g) e = true then .ok (s.wordAt g pl, e, g, s.touch e g pl "r") else .error "read"
def writeR (xs : List Sg) (s : Rn) (p w : Int) (x : Wd) : Rn × Option Str := match spotR s p w with
  | .error c => (s, some c)
  | .ok (e, g, pl) => if mWrite (sgAt xs g) e = true then ((s.touch e g pl "w").put g pl x, none) else (s, some "write")
def raisedR (r : Int) : Pt → Pt
  | none => none
  | some (o, g, p) => some (mx o r, g, p)
def Rn.enter (s : Rn) (r : Int) (w : Option (Int × Int)) : Rn := { s with ring := r, wh := w, pt := s.pt.map (raisedR r) }
def enteredR (x : Sg) (pl e : Int) : Except Str Int :=
  if has 120 x.ri = false then .error "run"
  else if ¬ (0 ≤ pl ∧ pl < (x.rs.length : Int)) then .error "entry"
  else if e ≤ x.r2 then .ok (mx e x.r1)
  else if e > x.r3 then .error "call"
  else if pl ≥ x.ga then .error "gate"
  else .ok x.r2
/-! ### the twelve rows -/
def rSet (b : Int) (s : Rn) (n : Int) : Rn × Option Str := ({ s with a := n % b }, none)
def rAdd (b : Int) (s : Rn) (n : Int) : Rn × Option Str := ({ s with a := (s.a + n) % b }, none)
def rLoad (xs : List Sg) (s : Rn) (p w : Int) : Rn × Option Str := match readR xs s p w with
  | .error c => (s, some c)
  | .ok (.num n, _, _, s') => ({ s' with a := n }, none)
  | .ok (.ptr .., _, _, s') => (s', some "kind")
def rStore (xs : List Sg) (s : Rn) (p w : Int) : Rn × Option Str := writeR xs s p w (.num s.a)
def rFetch (xs : List Sg) (s : Rn) (q p w : Int) : Rn × Option Str := match readR xs s p w with
  | .error c => (s, some c)
  | .ok (.num _, _, _, s') => (s', some "kind")
  | .ok (.ptr r g pl, e, n, s') => (s'.ptrSet q (some (mx (mx r e) (sgAt xs n).r1, g, pl)), none)
def rKeep (xs : List Sg) (s : Rn) (q p w : Int) : Rn × Option Str := match s.ptr q with
  | none => (s, some "pointer")
  | some (r, g, pl) => writeR xs s p w (.ptr r g pl)
def rAim (s : Rn) (q g w : Int) : Rn × Option Str := if w < 0 then (s, some "bounds") else (s.ptrSet q (some (s.ring, g, w)), none)
def rMove (s : Rn) (q p n : Int) : Rn × Option Str := match s.ptr p with
  | none => (s, some "pointer")
  | some (r, g, pl) => if pl + n < 0 then (s, some "bounds") else (s.ptrSet q (some (r, g, pl + n)), none)
def rGo (s : Rn) (j : Int) : Rn × Option Str := match s.wh with
  | none => (s, some "hand")
  | some (g, _) => ({ s with wh := some (g, j) }, none)
def rZero (s : Rn) (j : Int) : Rn × Option Str := match s.wh with
  | none => (s, some "hand")
  | some (g, _) => if s.a = 0 then ({ s with wh := some (g, j) }, none) else (s, none)
def rCall (xs : List Sg) (s : Rn) (p : Int) : Rn × Option Str := match s.ptr p with
  | none => (s, some "pointer")
  | some (r, g, pl) => match enteredR (sgAt xs g) pl (mx s.ring r) with
    | .error c => (s, some c)
    | .ok e => if 8 ≤ s.ca.length then (s, some "deep") else (({ s with ca := s.ca ++ [(s.ring, s.wh)] } : Rn).enter e (some (g, pl)), none)
def rRet (s : Rn) : Rn × Option Str := match s.wh with
  | none => (s, some "hand")
  | some _ => match s.ca.getLast? with
    | none => (s, some "hand")
    | some (r, w) => (({ s with ca := s.ca.dropLast } : Rn).enter r w, none)

def rF (v0 v1 v2 v3 v4 v5 v6 v7 v8 v9 : V) : List (Str × V) := [("machine", v0), ("hand", v1), ("ring", v2), ("a", v3), ("pointers", v4), ("memory", v5), ("where", v6), ("calls", v7), ("steps", v8), ("touches", v9)]
theorem rF_machine {v0 v1 v2 v3 v4 v5 v6 v7 v8 v9 : V} : (rF v0 v1 v2 v3 v4 v5 v6 v7 v8 v9).lookup ("machine" : Str) = some v0 := by unfold rF; rw [lookup_put, if_pos rfl]
theorem put_machine {v0 v1 v2 v3 v4 v5 v6 v7 v8 v9 y : V} : putF "machine" y (rF v0 v1 v2 v3 v4 v5 v6 v7 v8 v9) = rF y v1 v2 v3 v4 v5 v6 v7 v8 v9 := by unfold rF putF; rw [if_pos rfl]
theorem rF_hand {v0 v1 v2 v3 v4 v5 v6 v7 v8 v9 : V} : (rF v0 v1 v2 v3 v4 v5 v6 v7 v8 v9).lookup ("hand" : Str) = some v1 := by unfold rF; rw [lookup_put, if_neg (by decide +kernel)]; rw [lookup_put, if_pos rfl]
theorem put_hand {v0 v1 v2 v3 v4 v5 v6 v7 v8 v9 y : V} : putF "hand" y (rF v0 v1 v2 v3 v4 v5 v6 v7 v8 v9) = rF v0 y v2 v3 v4 v5 v6 v7 v8 v9 := by unfold rF putF; rw [if_neg (by decide +kernel)]; unfold putF; rw [if_pos rfl]
theorem rF_ring {v0 v1 v2 v3 v4 v5 v6 v7 v8 v9 : V} : (rF v0 v1 v2 v3 v4 v5 v6 v7 v8 v9).lookup ("ring" : Str) = some v2 := by unfold rF; rw [lookup_put, if_neg (by decide +kernel)]; rw [lookup_put, if_neg (by decide +kernel)]; rw [lookup_put, if_pos rfl]
theorem put_ring {v0 v1 v2 v3 v4 v5 v6 v7 v8 v9 y : V} : putF "ring" y (rF v0 v1 v2 v3 v4 v5 v6 v7 v8 v9) = rF v0 v1 y v3 v4 v5 v6 v7 v8 v9 := by unfold rF putF; rw [if_neg (by decide +kernel)]; unfold putF; rw [if_neg (by decide +kernel)]; unfold putF; rw [if_pos rfl]
theorem rF_a {v0 v1 v2 v3 v4 v5 v6 v7 v8 v9 : V} : (rF v0 v1 v2 v3 v4 v5 v6 v7 v8 v9).lookup ("a" : Str) = some v3 := by unfold rF; rw [lookup_put, if_neg (by decide +kernel)]; rw [lookup_put, if_neg (by decide +kernel)]; rw [lookup_put, if_neg (by decide +kernel)]; rw [lookup_put, if_pos rfl]
theorem put_a {v0 v1 v2 v3 v4 v5 v6 v7 v8 v9 y : V} : putF "a" y (rF v0 v1 v2 v3 v4 v5 v6 v7 v8 v9) = rF v0 v1 v2 y v4 v5 v6 v7 v8 v9 := by unfold rF putF; rw [if_neg (by decide +kernel)]; unfold putF; rw [if_neg (by decide +kernel)]; unfold putF; rw [if_neg (by decide +kernel)]; unfold putF; rw [if_pos rfl]
theorem rF_pointers {v0 v1 v2 v3 v4 v5 v6 v7 v8 v9 : V} : (rF v0 v1 v2 v3 v4 v5 v6 v7 v8 v9).lookup ("pointers" : Str) = some v4 := by unfold rF; rw [lookup_put, if_neg (by decide +kernel)]; rw [lookup_put, if_neg (by decide +kernel)]; rw [lookup_put, if_neg (by decide +kernel)]; rw [lookup_put, if_neg (by decide +kernel)]; rw [lookup_put, if_pos rfl]
theorem put_pointers {v0 v1 v2 v3 v4 v5 v6 v7 v8 v9 y : V} : putF "pointers" y (rF v0 v1 v2 v3 v4 v5 v6 v7 v8 v9) = rF v0 v1 v2 v3 y v5 v6 v7 v8 v9 := by unfold rF putF; rw [if_neg (by decide +kernel)]; unfold putF; rw [if_neg (by decide +kernel)]; unfold putF; rw [if_neg (by decide +kernel)]; unfold putF; rw [if_neg (by decide +kernel)]; unfold putF; rw [if_pos rfl]
theorem rF_memory {v0 v1 v2 v3 v4 v5 v6 v7 v8 v9 : V} : (rF v0 v1 v2 v3 v4 v5 v6 v7 v8 v9).lookup ("memory" : Str) = some v5 := by unfold rF; rw [lookup_put, if_neg (by decide +kernel)]; rw [lookup_put, if_neg (by decide +kernel)]; rw [lookup_put, if_neg (by decide +kernel)]; rw [lookup_put, if_neg (by decide +kernel)]; rw [lookup_put, if_neg (by decide +kernel)]; rw [lookup_put, if_pos rfl]
theorem put_memory {v0 v1 v2 v3 v4 v5 v6 v7 v8 v9 y : V} : putF "memory" y (rF v0 v1 v2 v3 v4 v5 v6 v7 v8 v9) = rF v0 v1 v2 v3 v4 y v6 v7 v8 v9 := by unfold rF putF; rw [if_neg (by decide +kernel)]; unfold putF; rw [if_neg (by decide +kernel)]; unfold putF; rw [if_neg (by decide +kernel)]; unfold putF; rw [if_neg (by decide +kernel)]; unfold putF; rw [if_neg (by decide +kernel)]; unfold putF; rw [if_pos rfl]
theorem rF_where {v0 v1 v2 v3 v4 v5 v6 v7 v8 v9 : V} : (rF v0 v1 v2 v3 v4 v5 v6 v7 v8 v9).lookup ("where" : Str) = some v6 := by unfold rF; rw [lookup_put, if_neg (by decide +kernel)]; rw [lookup_put, if_neg (by decide +kernel)]; rw [lookup_put, if_neg (by decide +kernel)]; rw [lookup_put, if_neg (by decide +kernel)]; rw [lookup_put, if_neg (by decide +kernel)]; rw [lookup_put, if_neg (by decide +kernel)]; rw [lookup_put, if_pos rfl]
theorem put_where {v0 v1 v2 v3 v4 v5 v6 v7 v8 v9 y : V} : putF "where" y (rF v0 v1 v2 v3 v4 v5 v6 v7 v8 v9) = rF v0 v1 v2 v3 v4 v5 y v7 v8 v9 := by unfold rF putF; rw [if_neg (by decide +kernel)]; unfold putF; rw [if_neg (by decide +kernel)]; unfold putF; rw [if_neg (by decide +kernel)]; unfold putF; rw [if_neg (by decide +kernel)]; unfold putF; rw [if_neg (by decide +kernel)]; unfold putF; rw [if_neg (by decide +kernel)]; unfold putF; rw [if_pos rfl]
theorem rF_calls {v0 v1 v2 v3 v4 v5 v6 v7 v8 v9 : V} : (rF v0 v1 v2 v3 v4 v5 v6 v7 v8 v9).lookup ("calls" : Str) = some v7 := by unfold rF; rw [lookup_put, if_neg (by decide +kernel)]; rw [lookup_put, if_neg (by decide +kernel)]; rw [lookup_put, if_neg (by decide +kernel)]; rw [lookup_put, if_neg (by decide +kernel)]; rw [lookup_put, if_neg (by decide +kernel)]; rw [lookup_put, if_neg (by decide +kernel)]; rw [lookup_put, if_neg (by decide +kernel)]; rw [lookup_put, if_pos rfl]
theorem put_calls {v0 v1 v2 v3 v4 v5 v6 v7 v8 v9 y : V} : putF "calls" y (rF v0 v1 v2 v3 v4 v5 v6 v7 v8 v9) = rF v0 v1 v2 v3 v4 v5 v6 y v8 v9 := by unfold rF putF; rw [if_neg (by decide +kernel)]; unfold putF; rw [if_neg (by decide +kernel)]; unfold putF; rw [if_neg (by decide +kernel)]; unfold putF; rw [if_neg (by decide +kernel)]; unfold putF; rw [if_neg (by decide +kernel)]; unfold putF; rw [if_neg (by decide +kernel)]; unfold putF; rw [if_neg (by decide +kernel)]; unfold putF; rw [if_pos rfl]
theorem rF_steps {v0 v1 v2 v3 v4 v5 v6 v7 v8 v9 : V} : (rF v0 v1 v2 v3 v4 v5 v6 v7 v8 v9).lookup ("steps" : Str) = some v8 := by unfold rF; rw [lookup_put, if_neg (by decide +kernel)]; rw [lookup_put, if_neg (by decide +kernel)]; rw [lookup_put, if_neg (by decide +kernel)]; rw [lookup_put, if_neg (by decide +kernel)]; rw [lookup_put, if_neg (by decide +kernel)]; rw [lookup_put, if_neg (by decide +kernel)]; rw [lookup_put, if_neg (by decide +kernel)]; rw [lookup_put, if_neg (by decide +kernel)]; rw [lookup_put, if_pos rfl]
theorem put_steps {v0 v1 v2 v3 v4 v5 v6 v7 v8 v9 y : V} : putF "steps" y (rF v0 v1 v2 v3 v4 v5 v6 v7 v8 v9) = rF v0 v1 v2 v3 v4 v5 v6 v7 y v9 := by unfold rF putF; rw [if_neg (by decide +kernel)]; unfold putF; rw [if_neg (by decide +kernel)]; unfold putF; rw [if_neg (by decide +kernel)]; unfold putF; rw [if_neg (by decide +kernel)]; unfold putF; rw [if_neg (by decide +kernel)]; unfold putF; rw [if_neg (by decide +kernel)]; unfold putF; rw [if_neg (by decide +kernel)]; unfold putF; rw [if_neg (by decide +kernel)]; unfold putF; rw [if_pos rfl]
theorem rF_touches {v0 v1 v2 v3 v4 v5 v6 v7 v8 v9 : V} : (rF v0 v1 v2 v3 v4 v5 v6 v7 v8 v9).lookup ("touches" : Str) = some v9 := by unfold rF; rw [lookup_put, if_neg (by decide +kernel)]; rw [lookup_put, if_neg (by decide +kernel)]; rw [lookup_put, if_neg (by decide +kernel)]; rw [lookup_put, if_neg (by decide +kernel)]; rw [lookup_put, if_neg (by decide +kernel)]; rw [lookup_put, if_neg (by decide +kernel)]; rw [lookup_put, if_neg (by decide +kernel)]; rw [lookup_put, if_neg (by decide +kernel)]; rw [lookup_put, if_neg (by decide +kernel)]; rw [lookup_put, if_pos rfl]
theorem put_touches {v0 v1 v2 v3 v4 v5 v6 v7 v8 v9 y : V} : putF "touches" y (rF v0 v1 v2 v3 v4 v5 v6 v7 v8 v9) = rF v0 v1 v2 v3 v4 v5 v6 v7 v8 y := by unfold rF putF; rw [if_neg (by decide +kernel)]; unfold putF; rw [if_neg (by decide +kernel)]; unfold putF; rw [if_neg (by decide +kernel)]; unfold putF; rw [if_neg (by decide +kernel)]; unfold putF; rw [if_neg (by decide +kernel)]; unfold putF; rw [if_neg (by decide +kernel)]; unfold putF; rw [if_neg (by decide +kernel)]; unfold putF; rw [if_neg (by decide +kernel)]; unfold putF; rw [if_neg (by decide +kernel)]; unfold putF; rw [if_pos rfl]
theorem rF_no_stand_now {v0 v1 v2 v3 v4 v5 v6 v7 v8 v9 : V} : (rF v0 v1 v2 v3 v4 v5 v6 v7 v8 v9).lookup ("stand_now" : Str) = none := by unfold rF; rw [lookup_put, if_neg (by decide +kernel)]; rw [lookup_put, if_neg (by decide +kernel)]; rw [lookup_put, if_neg (by decide +kernel)]; rw [lookup_put, if_neg (by decide +kernel)]; rw [lookup_put, if_neg (by decide +kernel)]; rw [lookup_put, if_neg (by decide +kernel)]; rw [lookup_put, if_neg (by decide +kernel)]; rw [lookup_put, if_neg (by decide +kernel)]; rw [lookup_put, if_neg (by decide +kernel)]; rw [lookup_put, if_neg (by decide +kernel)]; rfl
theorem rF_no_forget {v0 v1 v2 v3 v4 v5 v6 v7 v8 v9 : V} : (rF v0 v1 v2 v3 v4 v5 v6 v7 v8 v9).lookup ("forget" : Str) = none := by unfold rF; rw [lookup_put, if_neg (by decide +kernel)]; rw [lookup_put, if_neg (by decide +kernel)]; rw [lookup_put, if_neg (by decide +kernel)]; rw [lookup_put, if_neg (by decide +kernel)]; rw [lookup_put, if_neg (by decide +kernel)]; rw [lookup_put, if_neg (by decide +kernel)]; rw [lookup_put, if_neg (by decide +kernel)]; rw [lookup_put, if_neg (by decide +kernel)]; rw [lookup_put, if_neg (by decide +kernel)]; rw [lookup_put, if_neg (by decide +kernel)]; rfl
theorem rF_no_pointer {v0 v1 v2 v3 v4 v5 v6 v7 v8 v9 : V} : (rF v0 v1 v2 v3 v4 v5 v6 v7 v8 v9).lookup ("pointer" : Str) = none := by unfold rF; rw [lookup_put, if_neg (by decide +kernel)]; rw [lookup_put, if_neg (by decide +kernel)]; rw [lookup_put, if_neg (by decide +kernel)]; rw [lookup_put, if_neg (by decide +kernel)]; rw [lookup_put, if_neg (by decide +kernel)]; rw [lookup_put, if_neg (by decide +kernel)]; rw [lookup_put, if_neg (by decide +kernel)]; rw [lookup_put, if_neg (by decide +kernel)]; rw [lookup_put, if_neg (by decide +kernel)]; rw [lookup_put, if_neg (by decide +kernel)]; rfl
theorem rF_no_spot {v0 v1 v2 v3 v4 v5 v6 v7 v8 v9 : V} : (rF v0 v1 v2 v3 v4 v5 v6 v7 v8 v9).lookup ("spot" : Str) = none := by unfold rF; rw [lookup_put, if_neg (by decide +kernel)]; rw [lookup_put, if_neg (by decide +kernel)]; rw [lookup_put, if_neg (by decide +kernel)]; rw [lookup_put, if_neg (by decide +kernel)]; rw [lookup_put, if_neg (by decide +kernel)]; rw [lookup_put, if_neg (by decide +kernel)]; rw [lookup_put, if_neg (by decide +kernel)]; rw [lookup_put, if_neg (by decide +kernel)]; rw [lookup_put, if_neg (by decide +kernel)]; rw [lookup_put, if_neg (by decide +kernel)]; rfl
theorem rF_no_read {v0 v1 v2 v3 v4 v5 v6 v7 v8 v9 : V} : (rF v0 v1 v2 v3 v4 v5 v6 v7 v8 v9).lookup ("read" : Str) = none := by unfold rF; rw [lookup_put, if_neg (by decide +kernel)]; rw [lookup_put, if_neg (by decide +kernel)]; rw [lookup_put, if_neg (by decide +kernel)]; rw [lookup_put, if_neg (by decide +kernel)]; rw [lookup_put, if_neg (by decide +kernel)]; rw [lookup_put, if_neg (by decide +kernel)]; rw [lookup_put, if_neg (by decide +kernel)]; rw [lookup_put, if_neg (by decide +kernel)]; rw [lookup_put, if_neg (by decide +kernel)]; rw [lookup_put, if_neg (by decide +kernel)]; rfl
theorem rF_no_write {v0 v1 v2 v3 v4 v5 v6 v7 v8 v9 : V} : (rF v0 v1 v2 v3 v4 v5 v6 v7 v8 v9).lookup ("write" : Str) = none := by unfold rF; rw [lookup_put, if_neg (by decide +kernel)]; rw [lookup_put, if_neg (by decide +kernel)]; rw [lookup_put, if_neg (by decide +kernel)]; rw [lookup_put, if_neg (by decide +kernel)]; rw [lookup_put, if_neg (by decide +kernel)]; rw [lookup_put, if_neg (by decide +kernel)]; rw [lookup_put, if_neg (by decide +kernel)]; rw [lookup_put, if_neg (by decide +kernel)]; rw [lookup_put, if_neg (by decide +kernel)]; rw [lookup_put, if_neg (by decide +kernel)]; rfl
theorem rF_no_jump {v0 v1 v2 v3 v4 v5 v6 v7 v8 v9 : V} : (rF v0 v1 v2 v3 v4 v5 v6 v7 v8 v9).lookup ("jump" : Str) = none := by unfold rF; rw [lookup_put, if_neg (by decide +kernel)]; rw [lookup_put, if_neg (by decide +kernel)]; rw [lookup_put, if_neg (by decide +kernel)]; rw [lookup_put, if_neg (by decide +kernel)]; rw [lookup_put, if_neg (by decide +kernel)]; rw [lookup_put, if_neg (by decide +kernel)]; rw [lookup_put, if_neg (by decide +kernel)]; rw [lookup_put, if_neg (by decide +kernel)]; rw [lookup_put, if_neg (by decide +kernel)]; rw [lookup_put, if_neg (by decide +kernel)]; rfl
theorem rF_no_enter {v0 v1 v2 v3 v4 v5 v6 v7 v8 v9 : V} : (rF v0 v1 v2 v3 v4 v5 v6 v7 v8 v9).lookup ("enter" : Str) = none := by unfold rF; rw [lookup_put, if_neg (by decide +kernel)]; rw [lookup_put, if_neg (by decide +kernel)]; rw [lookup_put, if_neg (by decide +kernel)]; rw [lookup_put, if_neg (by decide +kernel)]; rw [lookup_put, if_neg (by decide +kernel)]; rw [lookup_put, if_neg (by decide +kernel)]; rw [lookup_put, if_neg (by decide +kernel)]; rw [lookup_put, if_neg (by decide +kernel)]; rw [lookup_put, if_neg (by decide +kernel)]; rw [lookup_put, if_neg (by decide +kernel)]; rfl
theorem rF_no_next_row {v0 v1 v2 v3 v4 v5 v6 v7 v8 v9 : V} : (rF v0 v1 v2 v3 v4 v5 v6 v7 v8 v9).lookup ("next_row" : Str) = none := by unfold rF; rw [lookup_put, if_neg (by decide +kernel)]; rw [lookup_put, if_neg (by decide +kernel)]; rw [lookup_put, if_neg (by decide +kernel)]; rw [lookup_put, if_neg (by decide +kernel)]; rw [lookup_put, if_neg (by decide +kernel)]; rw [lookup_put, if_neg (by decide +kernel)]; rw [lookup_put, if_neg (by decide +kernel)]; rw [lookup_put, if_neg (by decide +kernel)]; rw [lookup_put, if_neg (by decide +kernel)]; rw [lookup_put, if_neg (by decide +kernel)]; rfl
theorem rF_no_not_the_hand {v0 v1 v2 v3 v4 v5 v6 v7 v8 v9 : V} : (rF v0 v1 v2 v3 v4 v5 v6 v7 v8 v9).lookup ("not_the_hand" : Str) = none := by unfold rF; rw [lookup_put, if_neg (by decide +kernel)]; rw [lookup_put, if_neg (by decide +kernel)]; rw [lookup_put, if_neg (by decide +kernel)]; rw [lookup_put, if_neg (by decide +kernel)]; rw [lookup_put, if_neg (by decide +kernel)]; rw [lookup_put, if_neg (by decide +kernel)]; rw [lookup_put, if_neg (by decide +kernel)]; rw [lookup_put, if_neg (by decide +kernel)]; rw [lookup_put, if_neg (by decide +kernel)]; rw [lookup_put, if_neg (by decide +kernel)]; rfl
/-- the object of a run -/
structure RA (CR : Addr) (H : Hp) (x dx m : Addr) (hand : Int) (lp lm lc ls lt : Addr) (as : List Addr) (vw : V) (s : Rn) : Prop where
  hx : H x = some (.ins CR dx (rF (.ref m) (.int hand) (.int s.ring) (.int s.a) (.ref lp) (.ref lm) vw (.ref lc) (.ref ls) (.ref lt)))
  hp : ∃ v, H lp = some (.lst v) ∧ RpAll H v (s.pt.map ptD)
  hm : H lm = some (.lst (as.map V.ref))
  la : as.length = s.me.length
  ha : ∀ (i : Nat) (a : Addr) (ws : List Wd), as[i]? = some a → s.me[i]? = some ws → ∃ v, H a = some (.lst v) ∧ RpAll H v (ws.map Wd.d)
  hw : Rp H vw (whD s.wh)
  hc : ∃ v, H lc = some (.lst v) ∧ RpAll H v (s.ca.map caD)
  hs : ∃ v, H ls = some (.lst v) ∧ RpAll H v (s.st.map stD)
  ht : ∃ v, H lt = some (.lst v) ∧ RpAll H v (s.to.map toD)
  nd : (lp :: lm :: lc :: ls :: lt :: as).Nodup
/-- .. that came behind the heap H0, which stands -/
structure RunAt (CR : Addr) (H0 H : Hp) (x m : Addr) (hand : Int) (s : Rn) : Prop where
  ex : ∃ dx lp lm lc ls lt as vw, RA CR H x dx m hand lp lm lc ls lt as vw s ∧ (∀ a ∈ lp :: lm :: lc :: ls :: lt :: as, H0 a = none)
  nx : H0 x = none
  sm : Same H0 H
section
variable {CR : Addr} {H0 H H' : Hp} {x m : Addr} {hand : Int} {s : Rn}
theorem RA.same {dx lp lm lc ls lt : Addr} {as : List Addr} {vw : V} (R : RA CR H x dx m hand lp lm lc ls lt as vw s) (e : Same H H') : RA CR H' x dx m hand lp lm lc ls lt as vw s where
  hx := e _ _ R.hx
  hp := let ⟨v, h, r⟩ := R.hp; ⟨v, e _ _ h, r.keep (Tk.of e)⟩
  hm := e _ _ R.hm
  la := R.la
  ha := fun i a ws h1 h2 => let ⟨v, h, r⟩ := R.ha i a ws h1 h2; ⟨v, e _ _ h, r.keep (Tk.of e)⟩
  hw := R.hw.keep (Tk.of e)
  hc := let ⟨v, h, r⟩ := R.hc; ⟨v, e _ _ h, r.keep (Tk.of e)⟩
  hs := let ⟨v, h, r⟩ := R.hs; ⟨v, e _ _ h, r.keep (Tk.of e)⟩
  ht := let ⟨v, h, r⟩ := R.ht; ⟨v, e _ _ h, r.keep (Tk.of e)⟩
  nd := R.nd
theorem RunAt.same (R : RunAt CR H0 H x m hand s) (e : Same H H') : RunAt CR H0 H' x m hand s :=
  let ⟨dx, lp, lm, lc, ls, lt, as, vw, r, n⟩ := R.ex; ⟨⟨dx, lp, lm, lc, ls, lt, as, vw, r.same e, n⟩, R.nx, R.sm.trans e⟩
/-- the object itself is changed -/
theorem RA.fld {dx lp lm lc ls lt : Addr} {as : List Addr} {vw vw' : V} {s' : Rn} (R : RA CR H x dx m hand lp lm lc ls lt as vw s) (fs : List (Str × V)) (hf : fs = rF (.ref m) (.int hand) (.int s'.ring) (.int s'.a) (.ref lp) (.ref lm) vw' (.ref lc) (.ref ls) (.ref lt))
    (e1 : s'.pt = s.pt) (e2 : s'.me = s.me) (e3 : s'.ca = s.ca) (e4 : s'.st = s.st) (e5 : s'.to = s.to) (hw : Rp H vw' (whD s'.wh)) : RA CR (upd H x (.ins CR dx fs)) x dx m hand lp lm lc ls lt as vw' s' := by
  have tk : Tk H (upd H x (.ins CR dx fs)) := Tk.ins R.hx
  have ne : ∀ {q : Addr} {v : List V}, H q = some (.lst v) → upd H x (.ins CR dx fs) q = some (.lst v) := fun {q v} h => by rw [upd_ne (ne_of h R.hx (fun z => nomatch z))]; exact h
  subst hf
  refine ⟨upd_same, ?_, ne R.hm, e2 ▸ R.la, ?_, hw.keep tk, ?_, ?_, ?_, R.nd⟩
  · rw [e1]; exact let ⟨v, h, r⟩ := R.hp; ⟨v, ne h, r.keep tk⟩
  · rw [e2]; exact fun i a ws h1 h2 => let ⟨v, h, r⟩ := R.ha i a ws h1 h2; ⟨v, ne h, r.keep tk⟩
  · rw [e3]; exact let ⟨v, h, r⟩ := R.hc; ⟨v, ne h, r.keep tk⟩
  · rw [e4]; exact let ⟨v, h, r⟩ := R.hs; ⟨v, ne h, r.keep tk⟩
  · rw [e5]; exact let ⟨v, h, r⟩ := R.ht; ⟨v, ne h, r.keep tk⟩
theorem same_put {o : HO} {q : Addr} (e : Same H0 H) (n : H0 q = none) : Same H0 (upd H q o) := fun c u h => by rw [upd_ne (ne_of_none h n)]; exact e _ _ h
end
end Rg

/-! the run's lists changed; what its methods promise -/
namespace Rg
open PySem PySem.Spec L2
section
variable {CR : Addr} {H0 H H' : Hp} {x dx m lp lm lc ls lt : Addr} {hand : Int} {as : List Addr} {vw : V} {s : Rn}
theorem RA.nx (R : RA CR H x dx m hand lp lm lc ls lt as vw s) {q : Addr} {v : List V} (h : H q = some (.lst v)) : q ≠ x := ne_of h R.hx (fun z => nomatch z)
/-- one of the five lists is changed -/
theorem RA.lists (R : RA CR H x dx m hand lp lm lc ls lt as vw s) {q : Addr} {v0 v1 : List V} (hq : H q = some (.lst v0)) (s' : Rn) (er : s'.ring = s.ring) (ea : s'.a = s.a) (ew : s'.wh = s.wh)
    (h1 : lp ≠ q ∧ s'.pt = s.pt ∨ lp = q ∧ RpAll H v1 (s'.pt.map ptD)) (h2 : lm ≠ q) (h3 : lc ≠ q ∧ s'.ca = s.ca ∨ lc = q ∧ RpAll H v1 (s'.ca.map caD)) (h4 : ls ≠ q ∧ s'.st = s.st ∨ ls = q ∧ RpAll H v1 (s'.st.map stD)) (h5 : lt ≠ q ∧ s'.to = s.to ∨ lt = q ∧ RpAll H v1 (s'.to.map toD))
    (h6 : s'.me.length = s.me.length) (h7 : ∀ (i : Nat) (a : Addr) (ws : List Wd), as[i]? = some a → s'.me[i]? = some ws → (a ≠ q ∧ s.me[i]? = some ws) ∨ (a = q ∧ RpAll H v1 (ws.map Wd.d))) :
    RA CR (upd H q (.lst v1)) x dx m hand lp lm lc ls lt as vw s' := by
  have tk : Tk H (upd H q (.lst v1)) := Tk.lst hq
  have one : ∀ {β : Type} {f : β → PyData} {l : Addr} {ys ys' : List β}, (∃ v, H l = some (.lst v) ∧ RpAll H v (ys.map f)) → (l ≠ q ∧ ys' = ys ∨ l = q ∧ RpAll H v1 (ys'.map f)) → ∃ v, upd H q (.lst v1) l = some (.lst v) ∧ RpAll (upd H q (.lst v1)) v (ys'.map f) := fun {β f l ys ys'} h hc => by
    rcases hc with ⟨ne, e⟩ | ⟨e, r⟩
    · obtain ⟨v, a1, a2⟩ := h
      exact ⟨v, (upd_ne ne).trans a1, e ▸ a2.keep tk⟩
    · exact ⟨v1, by rw [e, upd_same], r.keep tk⟩
  refine ⟨?_, one R.hp h1, (upd_ne h2).trans R.hm, R.la.trans h6.symm, fun i a ws e1 e2 => ?_, ew ▸ R.hw.keep tk, one R.hc h3, one R.hs h4, one R.ht h5, R.nd⟩
  · rw [upd_ne (Ne.symm (R.nx hq)), er, ea]
    exact R.hx
  · rcases h7 i a ws e1 e2 with ⟨ne, e⟩ | ⟨e, r⟩
    · obtain ⟨v, b1, b2⟩ := R.ha i a ws e1 e
      exact ⟨v, (upd_ne ne).trans b1, b2.keep tk⟩
    · exact ⟨v1, by rw [e, upd_same], r.keep tk⟩
/-- what the five lists' addresses are not -/
structure Dst (lp lm lc ls lt : Addr) (as : List Addr) : Prop where
  pm : lp ≠ lm
  pc : lp ≠ lc
  ps : lp ≠ ls
  pt : lp ≠ lt
  mc : lm ≠ lc
  ms : lm ≠ ls
  mt : lm ≠ lt
  cs : lc ≠ ls
  ct : lc ≠ lt
  st : ls ≠ lt
  pa : ∀ a ∈ as, a ≠ lp
  ma : ∀ a ∈ as, a ≠ lm
  ca : ∀ a ∈ as, a ≠ lc
  sa : ∀ a ∈ as, a ≠ ls
  ta : ∀ a ∈ as, a ≠ lt
  na : as.Nodup
theorem RA.dst (R : RA CR H x dx m hand lp lm lc ls lt as vw s) : Dst lp lm lc ls lt as := by
  have h := R.nd
  simp only [List.nodup_cons, List.mem_cons, not_or] at h
  obtain ⟨⟨a1, a2, a3, a4, a5⟩, ⟨b1, b2, b3, b4⟩, ⟨c1, c2, c3⟩, ⟨d1, d2⟩, e1, n⟩ := h
  exact ⟨a1, a2, a3, a4, b1, b2, b3, c1, c2, d1, fun a ha e => a5 (e ▸ ha), fun a ha e => b4 (e ▸ ha), fun a ha e => c3 (e ▸ ha), fun a ha e => d2 (e ▸ ha), fun a ha e => e1 (e ▸ ha), n⟩
theorem RA.setC (R : RA CR H x dx m hand lp lm lc ls lt as vw s) {v1 : List V} {ca : List (Int × Option (Int × Int))} (r : RpAll H v1 (ca.map caD)) : RA CR (upd H lc (.lst v1)) x dx m hand lp lm lc ls lt as vw { s with ca := ca } := by
  obtain ⟨v0, h0, _⟩ := R.hc
  have d := R.dst
  exact R.lists h0 _ rfl rfl rfl (.inl ⟨d.pc, rfl⟩) d.mc (.inr ⟨rfl, r⟩) (.inl ⟨d.cs.symm, rfl⟩) (.inl ⟨d.ct.symm, rfl⟩) rfl fun i a ws h1 h2 => .inl ⟨d.ca a (List.mem_of_getElem? h1), h2⟩
theorem RA.setS (R : RA CR H x dx m hand lp lm lc ls lt as vw s) {v1 : List V} {st : List (Int × Int × Int × Int)} (r : RpAll H v1 (st.map stD)) : RA CR (upd H ls (.lst v1)) x dx m hand lp lm lc ls lt as vw { s with st := st } := by
  obtain ⟨v0, h0, _⟩ := R.hs
  have d := R.dst
  exact R.lists h0 _ rfl rfl rfl (.inl ⟨d.ps, rfl⟩) d.ms (.inl ⟨d.cs, rfl⟩) (.inr ⟨rfl, r⟩) (.inl ⟨d.st.symm, rfl⟩) rfl fun i a ws h1 h2 => .inl ⟨d.sa a (List.mem_of_getElem? h1), h2⟩
theorem RA.setT (R : RA CR H x dx m hand lp lm lc ls lt as vw s) {v1 : List V} {to : List (Int × Int × Int × Str)} (r : RpAll H v1 (to.map toD)) : RA CR (upd H lt (.lst v1)) x dx m hand lp lm lc ls lt as vw { s with to := to } := by
  obtain ⟨v0, h0, _⟩ := R.ht
  have d := R.dst
  exact R.lists h0 _ rfl rfl rfl (.inl ⟨d.pt, rfl⟩) d.mt (.inl ⟨d.ct, rfl⟩) (.inl ⟨d.st, rfl⟩) (.inr ⟨rfl, r⟩) rfl fun i a ws h1 h2 => .inl ⟨d.ta a (List.mem_of_getElem? h1), h2⟩
theorem RA.setP (R : RA CR H x dx m hand lp lm lc ls lt as vw s) {v1 : List V} {pt : List Pt} (r : RpAll H v1 (pt.map ptD)) : RA CR (upd H lp (.lst v1)) x dx m hand lp lm lc ls lt as vw { s with pt := pt } := by
  obtain ⟨v0, h0, _⟩ := R.hp
  have d := R.dst
  exact R.lists h0 _ rfl rfl rfl (.inr ⟨rfl, r⟩) d.pm.symm (.inl ⟨d.pc.symm, rfl⟩) (.inl ⟨d.ps.symm, rfl⟩) (.inl ⟨d.pt.symm, rfl⟩) rfl fun i a ws h1 h2 => .inl ⟨d.pa a (List.mem_of_getElem? h1), h2⟩
theorem RA.setM (R : RA CR H x dx m hand lp lm lc ls lt as vw s) {g : Nat} {q : Addr} {v1 : List V} {ws : List Wd} (hq : as[g]? = some q) (r : RpAll H v1 (ws.map Wd.d)) : RA CR (upd H q (.lst v1)) x dx m hand lp lm lc ls lt as vw { s with me := s.me.set g ws } := by
  have hg : g < s.me.length := R.la ▸ (List.getElem?_eq_some_iff.mp hq).1
  obtain ⟨v0, h0, _⟩ := R.ha g q _ hq (List.getElem?_eq_getElem hg)
  have d := R.dst
  have mq := List.mem_of_getElem? hq
  refine R.lists h0 _ rfl rfl rfl (.inl ⟨(d.pa q mq).symm, rfl⟩) (d.ma q mq).symm (.inl ⟨(d.ca q mq).symm, rfl⟩) (.inl ⟨(d.sa q mq).symm, rfl⟩) (.inl ⟨(d.ta q mq).symm, rfl⟩) (by show (s.me.set g ws).length = _; rw [List.length_set]) fun i a ws' h1 h2 => ?_
  have h2' : (s.me.set g ws)[i]? = some ws' := h2
  by_cases e : i = g
  · subst e
    rw [List.getElem?_set_self hg] at h2'
    cases h2'
    rw [hq] at h1
    cases h1
    exact .inr ⟨rfl, r⟩
  · rw [List.getElem?_set_ne (Ne.symm e)] at h2'
    refine .inl ⟨fun z => e ?_, h2'⟩
    have l1 := (List.getElem?_eq_some_iff.mp h1)
    have l2 := (List.getElem?_eq_some_iff.mp hq)
    exact (List.getElem_inj (h₀ := l1.1) (h₁ := l2.1) d.na).mp (l1.2.trans (z.trans l2.2.symm))
/-- a new list of pointers -/
theorem RA.newP (R : RA CR H x dx m hand lp lm lc ls lt as vw s) {lq : Addr} {v1 : List V} {pt : List Pt} (hq : H lq = some (.lst v1)) (r : RpAll H v1 (pt.map ptD)) (h2 : lq ≠ lm) (h3 : lq ≠ lc) (h4 : lq ≠ ls) (h5 : lq ≠ lt) (h6 : lq ∉ as) (fs : List (Str × V))
    (hf : fs = rF (.ref m) (.int hand) (.int s.ring) (.int s.a) (.ref lq) (.ref lm) vw (.ref lc) (.ref ls) (.ref lt)) : RA CR (upd H x (.ins CR dx fs)) x dx m hand lq lm lc ls lt as vw { s with pt := pt } := by
  have tk : Tk H (upd H x (.ins CR dx fs)) := Tk.ins R.hx
  have ne : ∀ {q : Addr} {v : List V}, H q = some (.lst v) → upd H x (.ins CR dx fs) q = some (.lst v) := fun {q v} h => (upd_ne (ne_of h R.hx (fun z => nomatch z))).trans h
  subst hf
  have hn := R.nd
  simp only [List.nodup_cons, List.mem_cons, not_or] at hn ⊢
  exact ⟨upd_same, ⟨v1, ne hq, r.keep tk⟩, ne R.hm, R.la, fun i a ws a1 a2 => let ⟨v, h, r⟩ := R.ha i a ws a1 a2; ⟨v, ne h, r.keep tk⟩, R.hw.keep tk, let ⟨v, h, r⟩ := R.hc; ⟨v, ne h, r.keep tk⟩, let ⟨v, h, r⟩ := R.hs; ⟨v, ne h, r.keep tk⟩, let ⟨v, h, r⟩ := R.ht; ⟨v, ne h, r.keep tk⟩, by
    simp only [List.nodup_cons, List.mem_cons, not_or]
    exact ⟨⟨h2, h3, h4, h5, h6⟩, hn.2⟩⟩
end
/-- what is fixed while a deed is done: the machine -/
structure Mch (C : Addr) (H0 : Hp) (m : Addr) (us : List V) (xs : List Sg) (b : Int) : Prop where
  at_ : MAt C H0 m us b
  rp : RpAll H0 us (xs.map Sg.d)
  l8 : xs.length ≤ 8
  b2 : 2 ≤ b
  ok : ∀ x ∈ xs, SgForm x ∧ sgFits x b xs.length = true
/-- the first call is the hand's, and none other is; and the hand is at it just where no call is left -/
def Stk (w : Option (Int × Int)) (ca : List (Int × Option (Int × Int))) : Prop := (w = none ↔ ca = []) ∧ ∀ (i : Nat) (c : Int × Option (Int × Int)), ca[i]? = some c → (c.2 = none ↔ i = 0)
theorem Stk.nil : Stk none [] := ⟨⟨fun _ => rfl, fun _ => rfl⟩, fun i c h => by simp at h⟩
theorem Stk.push {w : Option (Int × Int)} {ca : List (Int × Option (Int × Int))} (h : Stk w ca) (r : Int) (x : Int × Int) : Stk (some x) (ca ++ [(r, w)]) := by
  refine ⟨⟨fun e => (nomatch e), fun e => by simp at e⟩, fun i c hc => ?_⟩
  by_cases hi : i < ca.length
  · rw [List.getElem?_append_left hi] at hc
    exact h.2 i c hc
  · have e : i = ca.length := by
      have := (List.getElem?_eq_some_iff.mp hc).1
      simp at this
      omega
    subst e
    simp at hc
    subst hc
    show w = none ↔ _
    rw [h.1, List.length_eq_zero_iff]
theorem Stk.pop {w w' : Option (Int × Int)} {ca : List (Int × Option (Int × Int))} {r : Int} (h : Stk w ca) (e : ca.getLast? = some (r, w')) : Stk w' ca.dropLast := by
  have h1 : ca[ca.length - 1]? = some (r, w') := by rw [← List.getLast?_eq_getElem?]; exact e
  have h2 := h.2 _ _ h1
  have hp : ca ≠ [] := fun z => by rw [z] at e; cases e
  have hl : 0 < ca.length := List.length_pos_iff.mpr hp
  refine ⟨h2.trans ⟨fun z => List.length_eq_zero_iff.mp (by rw [List.length_dropLast]; exact z), fun z => by have := congrArg List.length z; rw [List.length_dropLast] at this; exact this⟩, fun i c hc => h.2 i c ?_⟩
  have hi := (List.getElem?_eq_some_iff.mp hc).1
  rw [List.getElem?_dropLast] at hc
  split at hc
  · exact hc
  · cases hc
theorem Stk.at {x y : Int × Int} {ca : List (Int × Option (Int × Int))} (h : Stk (some x) ca) : Stk (some y) ca := ⟨⟨fun e => (nomatch e), fun e => (nomatch h.1.mpr e)⟩, h.2⟩
theorem Stk.ne {x : Int × Int} {ca : List (Int × Option (Int × Int))} (h : Stk (some x) ca) : ca ≠ [] := fun e => (nomatch h.1.mpr e)
/-- what holds of a run's state -/
structure WF (xs : List Sg) (s : Rn) : Prop where
  pt4 : s.pt.length = 4
  ptg : ∀ r g p, some (r, g, p) ∈ s.pt → 0 ≤ g ∧ g < (xs.length : Int) ∧ 0 ≤ p
  me : s.me.length = xs.length
  mw : ∀ ws ∈ s.me, ws.length ≤ 900 ∧ ∀ r g p, Wd.ptr r g p ∈ ws → 0 ≤ g ∧ g < (xs.length : Int) ∧ 0 ≤ p
  wh : ∀ g p, s.wh = some (g, p) → 0 ≤ g ∧ g < (xs.length : Int)
  ca : ∀ c ∈ s.ca, ∀ g p, c.2 = some (g, p) → 0 ≤ g ∧ g < (xs.length : Int)
  c8 : s.ca.length ≤ 8
  s9 : s.st.length ≤ 900
  t9 : s.to.length ≤ 2000
  sk : Stk s.wh s.ca
/-- a fault is let out: the heap is kept -/
def Flt (CF : Addr) (E : XK) (H : Hp) (c : Str) : Prop := ∀ (d : Addr) (H' : Hp), H d = none → H' d = some (.xd [("cause", .str c)]) → Same H H' → E (.ref CF) (some d) H'
/-- the end of a row -/
def RunEnd (CR CF : Addr) (Q : VK) (E : XK) (H0 H : Hp) (x m : Addr) (hand : Int) (res : Rn × Option Str) : Prop := match res.2 with
  | none => ∀ H', RunAt CR H0 H' x m hand res.1 → Tk H H' → Q .non H'
  | some c => ∀ (d : Addr) (H' : Hp), H' d = some (.xd [("cause", .str c)]) → H0 d = none → RunAt CR H0 H' x m hand res.1 → Tk H H' → E (.ref CF) (some d) H'
theorem RunEnd.flt {CR CF : Addr} {Q : VK} {E : XK} {H0 H : Hp} {x m : Addr} {hand : Int} {s : Rn} {c : Str} (h : RunEnd CR CF Q E H0 H x m hand (s, some c)) {H1 : Hp} (R : RunAt CR H0 H1 x m hand s) (tk : Tk H H1) : Flt CF E H1 c := fun d H' hd hx e => h d H' hx (R.sm.free hd) (R.same e) (tk.trans (Tk.of e))
end Rg

/-! methods and defs that let faults out -/
namespace Rg
open PySem PySem.Spec L2
/-- the class Fault -/
structure FltC (P : Program) (w : World) (K : PySem.W.Frag) (mg : Str → Option Value) (base : Heap) (CF : Addr) : Prop where
  oex : OexE K CF
  wc : PySem.W.findIn K (.ref CF) "cause" = some none
  mgx : mg "Fault" = some (.ref CF)
  xf : XfC K CF
  ini : ∃ f fd, PySem.W.findIn K (.ref CF) "__init__" = some (some (.ref f)) ∧ PySem.W.typeIn K (.ref f) = some (.type "function") ∧ Binds K fd ["self", "cause"] [] ∧ FnOk P w K mg base CX0 1 f fd ["self", "cause"] (spFE K)
def tRf (CF : Addr) (W : WX) (te : TE) : TS := fun _ σ H => te σ H fun v H1 => ∀ d, H1 d = none → W (.ref CF) (some d) σ (upd H1 d (.xd [("cause", v)]))
theorem ps_fault {X : Cx} {W : WX} {CF : Addr} {e : Expr} {te : TE} {p pos pos' : Pos} (Fc : FltC X.prog X.w X.K X.mg X.base CF) (hc : X.calm = true) (tk : L2N.Takes X W) (hr : Room 2 X.A) (hg : Gl X "Fault") (he : PE X e te)
    (hst : starEach [e] X.env = (false, eval e X.env) :: starEach [] X.env := by rfl) (hpl : (backTo pos (starEach [] X.env)).any (·.1) = false := by rfl) : PS X (.Raise (some (.Call (.Name "Fault" p) [e] [] pos)) none pos') (tRf CF W te) := by
  obtain ⟨f, fd, i1, i2, b, F1⟩ := Fc.ini
  exact L2N.ps_raise hc tk (pmk_fault Fc.oex Fc.wc i1 i2 F1 hr b hg Fc.mgx he (by decide) hst hpl)
theorem rd_rf {CF : Addr} {W : WX} {te : TE} {D : Ends} {σ : L2.St} {H : Hp} (h : te σ H fun v H1 => ∀ d, H1 d = none → W (.ref CF) (some d) σ (upd H1 d (.xd [("cause", v)]))) : tRf CF W te D σ H := h
theorem Flt.here {CF : Addr} {E : XK} {H : Hp} {c : Str} (h : Flt CF E H c) : ∀ d, H d = none → E (.ref CF) (some d) (upd H d (.xd [("cause", .str c)])) := fun d hd => h d _ hd upd_same (same_upd hd)
/-- the class Run -/
structure RCl (K : PySem.W.Frag) (mg : Str → Option Value) (CR : Addr) : Prop where
  cl : Cls K CR
  n_machine : NoAttr K CR "machine"
  n_hand : NoAttr K CR "hand"
  n_ring : NoAttr K CR "ring"
  n_a : NoAttr K CR "a"
  n_pointers : NoAttr K CR "pointers"
  n_memory : NoAttr K CR "memory"
  n_where : NoAttr K CR "where"
  n_calls : NoAttr K CR "calls"
  n_steps : NoAttr K CR "steps"
  n_touches : NoAttr K CR "touches"
  mgC : mg "Run" = some (.ref CR)
structure MthX (P : Program) (w : World) (K : PySem.W.Frag) (mg : Str → Option Value) (base : Heap) (C : Addr) (m : Str) (k : Nat) (ps : List Str) (sp : Sp) : Prop where
  ex : ∃ (f : Addr) (fd : FuncData), Meth K C m f ∧ Binds K fd ps [] ∧ FnOk P w K mg base (L2N.CX P w) k f fd ps sp
structure CalN (P : Program) (w : World) (K : PySem.W.Frag) (mg : Str → Option Value) (base : Heap) (x : Str) (k : Nat) (ps : List Str) (sp : Sp) : Prop where
  ex : ∃ (f : Addr) (fd : FuncData), mg x = some (.ref f) ∧ PySem.W.keepIn K (.ref f) = true ∧ Binds K fd ps [] ∧ FnOk P w K mg base (L2N.CX P w) k f fd ps sp
section
variable {X : Cx} {C : Addr} {k : Nat} {ps : List Str} {sp : Sp} {m x : Str} {pos apos p : Pos} {e o : Expr} {es : List Expr} {t : TA} {ta : TE} {E : XK}
theorem pe_mthE {pl : Sem Bool} (M : MthX X.prog X.w X.K X.mg X.base C m k ps sp) (c : Cls X.K C) (hr : Room k X.A) (tk : L2N.Takes X (fun cls d _ H => E cls d H)) (he : PE X o ta) (ha : PA X (e :: es) t)
    (hst : starEach (e :: es) X.env = (false, eval e X.env) :: starEach es X.env := by rfl) (hpl : (backTo pos (starEach es X.env)).any (·.1) = false := by rfl)
    (ht : eval (.Call (.Attribute o m apos) (e :: es) [] pos) X.env = (do
      let ov ← eval o X.env
      standAt apos.atName
      let (f, first) ← holding [ov] (getMethod ov m pl)
      callWith pos f first (backTo pos (starEach (e :: es) X.env)) (backToKw pos (keywordEach [] X.env))) := by rfl) :
    PE X (.Call (.Attribute o m apos) (e :: es) [] pos) (tMeth C m sp [] E ta t) := by
  obtain ⟨f, fd, hm, hb, F⟩ := M.ex
  exact pe_meth he c hm F hr hb .nil (L2N.passes_call tk fun _ _ _ _ h => h) ha hst hpl ht
theorem pe_mthE0 {pl : Sem Bool} (M : MthX X.prog X.w X.K X.mg X.base C m k ps sp) (c : Cls X.K C) (hr : Room k X.A) (tk : L2N.Takes X (fun cls d _ H => E cls d H)) (he : PE X o ta)
    (ht : eval (.Call (.Attribute o m apos) [] [] pos) X.env = (do
      let ov ← eval o X.env
      standAt apos.atName
      let (f, first) ← holding [ov] (getMethod ov m pl)
      callWith pos f first (backTo pos (starEach [] X.env)) (backToKw pos (keywordEach [] X.env))) := by rfl) :
    PE X (.Call (.Attribute o m apos) [] [] pos) (tMeth C m sp [] E ta tNil) := by
  obtain ⟨f, fd, hm, hb, F⟩ := M.ex
  exact pe_meth0 he c hm F hr hb .nil (L2N.passes_call tk fun _ _ _ _ h => h) ht
theorem pe_calE (Cc : CalN X.prog X.w X.K X.mg X.base x k ps sp) (hr : Room k X.A) (hg : Gl X x) (tk : L2N.Takes X (fun cls d _ H => E cls d H)) (ha : PA X (e :: es) t) (hdb : (x == ("__debug__" : Str)) = false := by decide)
    (he : starEach (e :: es) X.env = (false, eval e X.env) :: starEach es X.env := by rfl) (hpl : (backTo pos (starEach es X.env)).any (·.1) = false := by rfl) :
    PE X (.Call (.Name x p) (e :: es) [] pos) (tCall sp [] E t) := by
  obtain ⟨f, fd, hm, hk, hb, F⟩ := Cc.ex
  exact pe_call F hr hg hm hk hb .nil (L2N.passes_call tk fun _ _ _ _ h => h) ha hdb he hpl
/-- in the body of a try -/
theorem pe_calNS {W : WX} (Cc : CalN X.prog X.w X.K X.mg X.base x k ps sp) (tk : L2N.Takes X W) (hr : Room k X.A) (hg : Gl X x) (ha : PA X (e :: es) t) (hdb : (x == ("__debug__" : Str)) = false := by decide)
    (he : starEach (e :: es) X.env = (false, eval e X.env) :: starEach es X.env := by rfl) (hpl : (backTo pos (starEach es X.env)).any (·.1) = false := by rfl) :
    PE X (.Call (.Name x p) (e :: es) [] pos) (tCallS sp (WE W) t) := by
  obtain ⟨f, fd, hm, hk, hb, F⟩ := Cc.ex
  exact pe_callS F hr hg hm hk hb (fun σ => L2N.passAt tk σ) ha hdb he hpl
end
/-- fields of a run -/
theorem rd_rfld {K : PySem.W.Frag} {CR : Addr} {H : Hp} {Q : VK} {x dx : Addr} {fs : List (Str × V)} {f : Str} {v : V} (hx : H x = some (.ins CR dx fs)) (c : Cls K CR) (n : NoAttr K CR f) (l : fs.lookup f = some v) (q : Q v H) :
    ∃ a C dx fs v, V.ref x = .ref a ∧ H a = some (.ins C dx fs) ∧ Cls K C ∧ NoAttr K C f ∧ fs.lookup f = some v ∧ Q v H := ⟨x, CR, dx, fs, v, rfl, hx, c, n, l, q⟩
theorem rd_rset {K : PySem.W.Frag} {CR : Addr} {H : Hp} {R : Hp → Prop} {x dx : Addr} {fs : List (Str × V)} {f : Str} {y : V} (hx : H x = some (.ins CR dx fs)) (c : Cls K CR) (n : NoAttr K CR f) (l : fs.length < 1000) (q : R (upd H x (.ins CR dx (putF f y fs)))) :
    ∃ a C dx fs, V.ref x = .ref a ∧ H a = some (.ins C dx fs) ∧ Cls K C ∧ NoAttr K C f ∧ fs.length < 1000 ∧ R (upd H a (.ins C dx (putF f y fs))) := ⟨x, CR, dx, fs, rfl, hx, c, n, l, q⟩
/-! ### what the methods promise -/
def spPointer (CR CF : Addr) : Sp := fun vs H Q E => ∃ (H0 : Hp) (x m : Addr) (hand p : Int) (s : Rn), vs = [.ref x, .int p] ∧ RunAt CR H0 H x m hand s ∧ s.pt.length = 4 ∧ 0 ≤ p ∧ p < 4 ∧
  (∀ r g pl, s.ptr p = some (r, g, pl) → ∀ q : Addr, H q = some (.tup [.int r, .int g, .int pl]) → Q (.ref q) H) ∧ (s.ptr p = none → Flt CF E H "pointer")
def spSpot (CR CF : Addr) : Sp := fun vs H Q E => ∃ (H0 : Hp) (x m : Addr) (hand p w : Int) (s : Rn) (xs : List Sg), vs = [.ref x, .int p, .int w] ∧ RunAt CR H0 H x m hand s ∧ WF xs s ∧ 0 ≤ p ∧ p < 4 ∧
  (∀ e g pl, spotR s p w = .ok (e, g, pl) → ∀ (q : Addr) (H' : Hp), H' q = some (.tup [.int e, .int g, .int pl]) → Same H H' → Q (.ref q) H') ∧ (∀ c, spotR s p w = .error c → Flt CF E H c)
def spRead (C CR CF : Addr) : Sp := fun vs H Q E => ∃ (H0 : Hp) (x m : Addr) (us : List V) (xs : List Sg) (b hand p w : Int) (s : Rn), vs = [.ref x, .int p, .int w] ∧ Mch C H0 m us xs b ∧ RunAt CR H0 H x m hand s ∧ WF xs s ∧ 0 ≤ p ∧ p < 4 ∧
  (∀ wd e g s', readR xs s p w = .ok (wd, e, g, s') → ∀ (v : V) (q : Addr) (H' : Hp), H' q = some (.tup [v, .int e, .int g]) → Rp H' v wd.d → RunAt CR H0 H' x m hand s' → Tk H H' → Q (.ref q) H') ∧ (∀ c, readR xs s p w = .error c → Flt CF E H c)
def spWrite (C CR CF : Addr) : Sp := fun vs H Q E => ∃ (H0 : Hp) (x m : Addr) (us : List V) (xs : List Sg) (b hand p w : Int) (v : V) (wd : Wd) (s : Rn), vs = [.ref x, .int p, .int w, v] ∧ Mch C H0 m us xs b ∧ RunAt CR H0 H x m hand s ∧ WF xs s ∧ 0 ≤ p ∧ p < 4 ∧ Rp H v wd.d ∧
  RunEnd CR CF Q E H0 H x m hand (writeR xs s p w wd)
/-- a row's def, by its numbers -/
def spDo (C CR CF : Addr) (fn : List Sg → Int → Rn → List Int → Rn × Option Str) (ok : List Sg → List Int → Prop) : Sp := fun vs H Q E => ∃ (H0 : Hp) (x m : Addr) (us : List V) (xs : List Sg) (b hand : Int) (s : Rn) (ns : List Int), vs = .ref x :: ns.map V.int ∧ Mch C H0 m us xs b ∧ RunAt CR H0 H x m hand s ∧ WF xs s ∧ ok xs ns ∧
  RunEnd CR CF Q E H0 H x m hand (fn xs b s ns)
theorem pt_get {s : Rn} {p : Int} {H : Hp} {v : List V} (r : RpAll H v (s.pt.map ptD)) (h4 : s.pt.length = 4) (p0 : 0 ≤ p) (p4 : p < 4) : ∃ u, atI v p = some u ∧ Rp H u (ptD (s.ptr p)) := by
  have hl : p.toNat < s.pt.length := by omega
  obtain ⟨u, hu, ru⟩ := r.get2 (i := p.toNat) (d := ptD (s.ptr p)) (by
    unfold Rn.ptr
    rw [List.getElem?_map, List.getD_eq_getElem?_getD, List.getElem?_eq_getElem hl]
    rfl)
  exact ⟨u, at_of (by omega) hu, ru⟩
theorem ptD_some {H : Hp} {u : V} {r g p : Int} (h : Rp H u (ptD (some (r, g, p)))) : ∃ q, u = .ref q ∧ H q = some (.tup [.int r, .int g, .int p]) := by
  obtain ⟨q, vs, rfl, hq, ha⟩ := Rp.tup_inv (show Rp H u (.tuple [.int r, .int g, .int p]) from h)
  have e := RpAll.ints_inv (ns := [r, g, p]) ha
  subst e
  exact ⟨q, rfl, hq⟩
end Rg

/-! a name that holds one of several defs, called with a star; the table of actions -/
namespace Rg
open PySem PySem.Spec PyProof.Rows L2 L2H
structure HeldX (P : Program) (w : World) (K : PySem.W.Frag) (mg : Str → Option Value) (base : Heap) (k : Nat) (f : Addr) (sp : Sp) : Prop where
  ex : ∃ (fd : FuncData) (ps : List Str), FnOk P w K mg base (L2N.CX P w) k f fd ps sp ∧ PySem.W.keepIn K (.ref f) = true ∧ Binds K fd ps []
def tCallAX (i : Nat) (E : XK) (G : Addr → Sp → Prop) (t : TA) : TE := fun σ H Q => ∃ f sp, σ[i]? = some (some (.ref f)) ∧ G f sp ∧ t σ H fun vs H1 => sp vs H1 Q E
section
variable {X : Cx} {k i : Nat} {E : XK} {x : Str} {p pos : Pos} {e : Expr} {es : List Expr} {t : TA} {G : Addr → Sp → Prop}
theorem pe_callAX (A : ∀ f sp, G f sp → HeldX X.prog X.w X.K X.mg X.base k f sp) (hr : Room k X.A) (hN : X.N[i]? = some x) (hv : Vis X.env.scope x) (tk : L2N.Takes X (fun cls d _ H => E cls d H)) (ha : PA X (e :: es) t)
    (hdb : (x == ("__debug__" : Str)) = false := by decide) (hcd : (x == ("__classdict__" : Str)) = false := by decide)
    (he : starEach (e :: es) X.env = (false, eval e X.env) :: starEach es X.env := by rfl) (hst : (backTo pos (starEach es X.env)).any (·.1) = true := by rfl) : PE X (.Call (.Name x p) (e :: es) [] pos) (tCallAX i E G t) := by
  refine ⟨fun pins s σ H Q I h => ?_⟩
  obtain ⟨f, sp, hs, hG, ht⟩ := h
  obtain ⟨fd, ps, F, hk, hb⟩ := (A f sp hG).ex
  refine wpAny_Call_Name_kw (thn ((pe_var (pos := p) hN hv hdb hcd).run pins s σ H (fun v H1 => v = .ref f ∧ H1 = H) I ⟨.ref f, hs, rfl, rfl⟩) fun u z ⟨v, H1, I1, r1, q1⟩ => ?_)
  obtain ⟨rfl, rfl⟩ := q1
  cases r1
  refine PySem.W.callWith_S2 (h₀ := X.base) I.ok.mod.kin hk (thn (ha.run pos pins z σ _ _ I1 ht) fun us z2 ⟨vs, H2, I2, r, q⟩ => ⟨I2.kIn, ?_⟩) he hst
  have q0 : sp (vs ++ []) H2 Q E := by rw [List.append_nil]; exact q
  exact run_fn F hr hb .nil (L2N.passes_call tk fun _ _ _ _ h => h) I2 r q0
end
theorem rd_callAX {i : Nat} {E : XK} {G : Addr → Sp → Prop} {t : TA} {σ : L2.St} {H : Hp} {Q : VK} {f : Addr} {sp : Sp} (h1 : σ[i]? = some (some (.ref f))) (h2 : G f sp) (h : t σ H fun vs H1 => sp vs H1 Q E) : tCallAX i E G t σ H Q := ⟨f, sp, h1, h2, h⟩
theorem rd_star {K : PySem.W.Frag} {te : TE} {t : TA} {σ : L2.St} {H : Hp} {R : List V → Hp → Prop} (h : te σ H fun x H1 => ∃ p xs, x = V.ref p ∧ (SqT K H1 p xs ∨ SqL K H1 p xs) ∧ t σ H1 fun ys H2 => R (xs ++ ys) H2) : StX.tStar K te t σ H R := h
/-- o.m() in an except suite -/
theorem pe_methH0 {X : Cx} {CX : CXT} {C f : Addr} {k : Nat} {fd : FuncData} {ps : List Str} {sp : Sp} {m : Str} {o : Expr} {ta : TE} {E : L2.St → XK} {pos apos : Pos} {pl : Sem Bool} (he : PE X o ta) (c : Cls X.K C) (hm : Meth X.K C m f) (F : FnH X.prog X.w X.K X.mg X.base CX k f fd ps sp) (hr : RoomH k X.A) (hc : HotC X) (hb : Binds X.K fd ps []) (hx : ∀ σ, PassesAt CX X σ (E σ))
    (ht : eval (.Call (.Attribute o m apos) [] [] pos) X.env = (do
      let ov ← eval o X.env
      standAt apos.atName
      let (f, first) ← holding [ov] (getMethod ov m pl)
      callWith pos f first (backTo pos (starEach [] X.env)) (backToKw pos (keywordEach [] X.env))) := by rfl) :
    PE X (.Call (.Attribute o m apos) [] [] pos) (tMethH C m sp E ta tNil) := by
  refine ⟨fun pins s σ H Q I h => PySem.W.methodCall_KW (pl := pl) (thn (he.run pins s σ H _ I h) fun u z ⟨x, H1, I1, rx, a, dx, fs, ex, ea, l, q⟩ => ?_) ht⟩
  subst ex
  cases rx
  refine getmeth_ok I1 ea c hm l ?_
  refine PySem.W.callWith_K0 (first := [.ref a]) I1.kIn hm.kp ?_
  exact run_fnH (us := [.ref a]) (vs := [.ref a]) F hr hc hb (hx σ) I1 (.cons rfl .nil) q
theorem rd_methH {C : Addr} {m : Str} {sp : Sp} {E : L2.St → XK} {ta : TE} {t : TA} {σ : L2.St} {H : Hp} {Q : VK} (h : ta σ H fun x H1 => ∃ a dx fs, x = .ref a ∧ H1 a = some (.ins C dx fs) ∧ fs.lookup m = none ∧ t σ H1 fun vs H2 => sp (x :: vs) H2 Q (E σ)) : tMethH C m sp E ta t σ H Q := h
/-! ### the actions -/
def actOps : List Str := ["set", "add", "load", "store", "fetch", "keep", "aim", "move", "zero", "go", "call", "return"]
/-- the table of the top: each word's def -/
def GAct (K : PySem.W.Frag) (w : World) (mg : Str → Option Value) (af : Str → Addr) : Prop := ∃ a, mg "ACTIONS" = some (.ref a) ∧ ∀ z ∈ actOps, KDct K w a z (.ref (af z))
def tAct (K : PySem.W.Frag) (w : World) (af : Str → Addr) : TE := fun _ H Q => ∀ a, (∀ z ∈ actOps, KDct K w a z (.ref (af z))) → Q (.ref a) H
theorem pe_act {X : Cx} {pos : Pos} {af : Str → Addr} (h : GAct X.K X.w X.mg af) (hg : Gl X "ACTIONS") : PE X (.Name "ACTIONS" pos) (tAct X.K X.w af) := by
  obtain ⟨a, e, q⟩ := h
  have p : PE X (.Name "ACTIONS" pos) (tC (.ref a)) := pe_glob hg e rfl
  exact ⟨fun pins s σ H Q I hw => p.run pins s σ H Q I (hw a q)⟩
theorem ix_dK {X : Cx} {K : PySem.W.Frag} {w : World} (h1 : X.K = K := by rfl) (h2 : X.w = w := by rfl) : IxR X (rIxD K w) := by subst h1 h2; exact ix_kdict
theorem takes0N {X : Cx} : L2N.Takes X (fun _ _ _ _ => False) := fun _ _ ⟨_, _, _, _, _, _, _, _, _, _, _, _, _, _, _, _, w⟩ => w.elim
theorem Fun.okH {CX : CXT} {P : Program} {w : World} {K : PySem.W.Frag} {mg : Str → Option Value} {base : Heap} {x qual : Str} {st : Stmt} {f : Addr} {fd : FuncData} {N ps : List Str} {k : Nat} {sp : Sp} (F : L2.Fun K x qual st f fd) (S : FnScope N ps (defScope st)) (len : ∀ vs H Q E, sp vs H Q E → vs.length = ps.length)
    (body : ∀ (cdv : Value) (A : Around) (outer : List Env) (s : Shared) (H : Hp) (vs : List V) (Q : VK) (E : XK) (p : Addr × Obj), L2H.Hot1 A p → L2H.RoomH k (A.deeper (envOfC qual (defScope st) s.heap.objs.size f cdv)) → sp vs H Q E →
      ∃ t, PSs (L2H.cxH CX P w K mg base N qual (defScope st) f cdv A outer s H E p) (defBody st) t ∧ t { nx := fun _ H' => Q .non H', rt := Q } (L2.start N vs) H) : L2H.FnH P w K mg base CX (k + 1) f fd ps sp := by
  obtain ⟨oc, od, kV, doc, pm, an, cdv, ct, osl, rfl, lk, hcd⟩ := F.ex
  exact L2H.fn_ofH lk hcd S len fun A outer s H vs Q E p ht hr h => body cdv A outer s H vs Q E p ht hr h
end Rg

/-! the law's own world: a dict; the mirror is the run's -/
namespace Rg
open PySem PySem.Spec PyProof.Rows L2
theorem hu_of {k : Nat} {A : Around} (r : Room k A) : A.units + 1 < cLine := by have := r.un; omega
theorem put_no {k : Key} {v : V} {r : List (Key × V)} (h : valV r k = none) : putK r k v = r ++ [(k, v)] := by
  unfold putK
  rw [valV_any, h]
  rfl
theorem put_pos {k : Key} {v u : V} {r : List (Key × V)} (h : valV r k = none) : putK ((k, u) :: r) k v = (k, v) :: r := by
  unfold putK
  rw [valV_any, valV_pos rfl, if_pos (by rfl), List.map_cons, if_pos (by rfl)]
  congr 1
  conv => rhs; rw [← List.map_id r]
  refine List.map_congr_left fun p hp => ?_
  rw [if_neg fun e => ?_]
  · rfl
  · have : (r.any fun kv => decide (kv.1 = k)) = true := List.any_eq_true.mpr ⟨p, hp, decide_eq_true e⟩
    rw [valV_any, h] at this
    cases this
theorem put_neg {k : Key} {v : V} {p : Key × V} {r : List (Key × V)} (e : ¬ p.1 = k) (h : (valV r k).isSome = true) : putK (p :: r) k v = p :: putK r k v := by
  unfold putK
  rw [valV_any, valV_any, valV_neg e, h, if_pos rfl, if_pos rfl, List.map_cons, if_neg e]
def wF (v0 v1 v2 v3 v4 v5 v6 v7 v8 : V) : List (Key × V) := [((Sum.inr ("segments" : Str) : Key), v0), ((Sum.inr ("base" : Str) : Key), v1), ((Sum.inr ("ring" : Str) : Key), v2), ((Sum.inr ("a" : Str) : Key), v3), ((Sum.inr ("pointers" : Str) : Key), v4), ((Sum.inr ("calls" : Str) : Key), v5), ((Sum.inr ("memory" : Str) : Key), v6), ((Sum.inr ("at" : Str) : Key), v7), ((Sum.inr ("touches" : Str) : Key), v8)]
theorem wF_segments {v0 v1 v2 v3 v4 v5 v6 v7 v8 : V} : valV (wF v0 v1 v2 v3 v4 v5 v6 v7 v8) (Sum.inr ("segments" : Str) : Key) = some v0 := by unfold wF; rw [valV_pos rfl]
theorem wF_base {v0 v1 v2 v3 v4 v5 v6 v7 v8 : V} : valV (wF v0 v1 v2 v3 v4 v5 v6 v7 v8) (Sum.inr ("base" : Str) : Key) = some v1 := by unfold wF; rw [valV_neg (by dsimp only; decide +kernel)]; rw [valV_pos rfl]
theorem wF_ring {v0 v1 v2 v3 v4 v5 v6 v7 v8 : V} : valV (wF v0 v1 v2 v3 v4 v5 v6 v7 v8) (Sum.inr ("ring" : Str) : Key) = some v2 := by unfold wF; rw [valV_neg (by dsimp only; decide +kernel)]; rw [valV_neg (by dsimp only; decide +kernel)]; rw [valV_pos rfl]
theorem wF_a {v0 v1 v2 v3 v4 v5 v6 v7 v8 : V} : valV (wF v0 v1 v2 v3 v4 v5 v6 v7 v8) (Sum.inr ("a" : Str) : Key) = some v3 := by unfold wF; rw [valV_neg (by dsimp only; decide +kernel)]; rw [valV_neg (by dsimp only; decide +kernel)]; rw [valV_neg (by dsimp only; decide +kernel)]; rw [valV_pos rfl]
theorem wF_pointers {v0 v1 v2 v3 v4 v5 v6 v7 v8 : V} : valV (wF v0 v1 v2 v3 v4 v5 v6 v7 v8) (Sum.inr ("pointers" : Str) : Key) = some v4 := by unfold wF; rw [valV_neg (by dsimp only; decide +kernel)]; rw [valV_neg (by dsimp only; decide +kernel)]; rw [valV_neg (by dsimp only; decide +kernel)]; rw [valV_neg (by dsimp only; decide +kernel)]; rw [valV_pos rfl]
theorem wF_calls {v0 v1 v2 v3 v4 v5 v6 v7 v8 : V} : valV (wF v0 v1 v2 v3 v4 v5 v6 v7 v8) (Sum.inr ("calls" : Str) : Key) = some v5 := by unfold wF; rw [valV_neg (by dsimp only; decide +kernel)]; rw [valV_neg (by dsimp only; decide +kernel)]; rw [valV_neg (by dsimp only; decide +kernel)]; rw [valV_neg (by dsimp only; decide +kernel)]; rw [valV_neg (by dsimp only; decide +kernel)]; rw [valV_pos rfl]
theorem wF_memory {v0 v1 v2 v3 v4 v5 v6 v7 v8 : V} : valV (wF v0 v1 v2 v3 v4 v5 v6 v7 v8) (Sum.inr ("memory" : Str) : Key) = some v6 := by unfold wF; rw [valV_neg (by dsimp only; decide +kernel)]; rw [valV_neg (by dsimp only; decide +kernel)]; rw [valV_neg (by dsimp only; decide +kernel)]; rw [valV_neg (by dsimp only; decide +kernel)]; rw [valV_neg (by dsimp only; decide +kernel)]; rw [valV_neg (by dsimp only; decide +kernel)]; rw [valV_pos rfl]
theorem wF_at {v0 v1 v2 v3 v4 v5 v6 v7 v8 : V} : valV (wF v0 v1 v2 v3 v4 v5 v6 v7 v8) (Sum.inr ("at" : Str) : Key) = some v7 := by unfold wF; rw [valV_neg (by dsimp only; decide +kernel)]; rw [valV_neg (by dsimp only; decide +kernel)]; rw [valV_neg (by dsimp only; decide +kernel)]; rw [valV_neg (by dsimp only; decide +kernel)]; rw [valV_neg (by dsimp only; decide +kernel)]; rw [valV_neg (by dsimp only; decide +kernel)]; rw [valV_neg (by dsimp only; decide +kernel)]; rw [valV_pos rfl]
theorem wF_touches {v0 v1 v2 v3 v4 v5 v6 v7 v8 : V} : valV (wF v0 v1 v2 v3 v4 v5 v6 v7 v8) (Sum.inr ("touches" : Str) : Key) = some v8 := by unfold wF; rw [valV_neg (by dsimp only; decide +kernel)]; rw [valV_neg (by dsimp only; decide +kernel)]; rw [valV_neg (by dsimp only; decide +kernel)]; rw [valV_neg (by dsimp only; decide +kernel)]; rw [valV_neg (by dsimp only; decide +kernel)]; rw [valV_neg (by dsimp only; decide +kernel)]; rw [valV_neg (by dsimp only; decide +kernel)]; rw [valV_neg (by dsimp only; decide +kernel)]; rw [valV_pos rfl]
theorem pw_ring {v0 v1 v2 v3 v4 v5 v6 v7 v8 y : V} : putK (wF v0 v1 v2 v3 v4 v5 v6 v7 v8) (Sum.inr ("ring" : Str) : Key) y = wF v0 v1 y v3 v4 v5 v6 v7 v8 := by unfold wF; rw [put_neg (by dsimp only; decide +kernel) (by rw [valV_neg (by dsimp only; decide +kernel)]; rw [valV_pos rfl]; rfl)]; rw [put_neg (by dsimp only; decide +kernel) (by rw [valV_pos rfl]; rfl)]; rw [put_pos (by rw [valV_neg (by dsimp only; decide +kernel)]; rw [valV_neg (by dsimp only; decide +kernel)]; rw [valV_neg (by dsimp only; decide +kernel)]; rw [valV_neg (by dsimp only; decide +kernel)]; rw [valV_neg (by dsimp only; decide +kernel)]; rw [valV_neg (by dsimp only; decide +kernel)]; rfl)]
theorem pw_a {v0 v1 v2 v3 v4 v5 v6 v7 v8 y : V} : putK (wF v0 v1 v2 v3 v4 v5 v6 v7 v8) (Sum.inr ("a" : Str) : Key) y = wF v0 v1 v2 y v4 v5 v6 v7 v8 := by unfold wF; rw [put_neg (by dsimp only; decide +kernel) (by rw [valV_neg (by dsimp only; decide +kernel)]; rw [valV_neg (by dsimp only; decide +kernel)]; rw [valV_pos rfl]; rfl)]; rw [put_neg (by dsimp only; decide +kernel) (by rw [valV_neg (by dsimp only; decide +kernel)]; rw [valV_pos rfl]; rfl)]; rw [put_neg (by dsimp only; decide +kernel) (by rw [valV_pos rfl]; rfl)]; rw [put_pos (by rw [valV_neg (by dsimp only; decide +kernel)]; rw [valV_neg (by dsimp only; decide +kernel)]; rw [valV_neg (by dsimp only; decide +kernel)]; rw [valV_neg (by dsimp only; decide +kernel)]; rw [valV_neg (by dsimp only; decide +kernel)]; rfl)]
theorem pw_pointers {v0 v1 v2 v3 v4 v5 v6 v7 v8 y : V} : putK (wF v0 v1 v2 v3 v4 v5 v6 v7 v8) (Sum.inr ("pointers" : Str) : Key) y = wF v0 v1 v2 v3 y v5 v6 v7 v8 := by unfold wF; rw [put_neg (by dsimp only; decide +kernel) (by rw [valV_neg (by dsimp only; decide +kernel)]; rw [valV_neg (by dsimp only; decide +kernel)]; rw [valV_neg (by dsimp only; decide +kernel)]; rw [valV_pos rfl]; rfl)]; rw [put_neg (by dsimp only; decide +kernel) (by rw [valV_neg (by dsimp only; decide +kernel)]; rw [valV_neg (by dsimp only; decide +kernel)]; rw [valV_pos rfl]; rfl)]; rw [put_neg (by dsimp only; decide +kernel) (by rw [valV_neg (by dsimp only; decide +kernel)]; rw [valV_pos rfl]; rfl)]; rw [put_neg (by dsimp only; decide +kernel) (by rw [valV_pos rfl]; rfl)]; rw [put_pos (by rw [valV_neg (by dsimp only; decide +kernel)]; rw [valV_neg (by dsimp only; decide +kernel)]; rw [valV_neg (by dsimp only; decide +kernel)]; rw [valV_neg (by dsimp only; decide +kernel)]; rfl)]
theorem pw_at {v0 v1 v2 v3 v4 v5 v6 v7 v8 y : V} : putK (wF v0 v1 v2 v3 v4 v5 v6 v7 v8) (Sum.inr ("at" : Str) : Key) y = wF v0 v1 v2 v3 v4 v5 v6 y v8 := by unfold wF; rw [put_neg (by dsimp only; decide +kernel) (by rw [valV_neg (by dsimp only; decide +kernel)]; rw [valV_neg (by dsimp only; decide +kernel)]; rw [valV_neg (by dsimp only; decide +kernel)]; rw [valV_neg (by dsimp only; decide +kernel)]; rw [valV_neg (by dsimp only; decide +kernel)]; rw [valV_neg (by dsimp only; decide +kernel)]; rw [valV_pos rfl]; rfl)]; rw [put_neg (by dsimp only; decide +kernel) (by rw [valV_neg (by dsimp only; decide +kernel)]; rw [valV_neg (by dsimp only; decide +kernel)]; rw [valV_neg (by dsimp only; decide +kernel)]; rw [valV_neg (by dsimp only; decide +kernel)]; rw [valV_neg (by dsimp only; decide +kernel)]; rw [valV_pos rfl]; rfl)]; rw [put_neg (by dsimp only; decide +kernel) (by rw [valV_neg (by dsimp only; decide +kernel)]; rw [valV_neg (by dsimp only; decide +kernel)]; rw [valV_neg (by dsimp only; decide +kernel)]; rw [valV_neg (by dsimp only; decide +kernel)]; rw [valV_pos rfl]; rfl)]; rw [put_neg (by dsimp only; decide +kernel) (by rw [valV_neg (by dsimp only; decide +kernel)]; rw [valV_neg (by dsimp only; decide +kernel)]; rw [valV_neg (by dsimp only; decide +kernel)]; rw [valV_pos rfl]; rfl)]; rw [put_neg (by dsimp only; decide +kernel) (by rw [valV_neg (by dsimp only; decide +kernel)]; rw [valV_neg (by dsimp only; decide +kernel)]; rw [valV_pos rfl]; rfl)]; rw [put_neg (by dsimp only; decide +kernel) (by rw [valV_neg (by dsimp only; decide +kernel)]; rw [valV_pos rfl]; rfl)]; rw [put_neg (by dsimp only; decide +kernel) (by rw [valV_pos rfl]; rfl)]; rw [put_pos (by rw [valV_neg (by dsimp only; decide +kernel)]; rfl)]
theorem pb_calls {v0 v1 v2 v3 v4 v5 : V} : putK ([((Sum.inr ("segments" : Str) : Key), v0), ((Sum.inr ("base" : Str) : Key), v1), ((Sum.inr ("ring" : Str) : Key), v2), ((Sum.inr ("a" : Str) : Key), v3), ((Sum.inr ("pointers" : Str) : Key), v4)] : List (Key × V)) (Sum.inr ("calls" : Str) : Key) v5 = ([((Sum.inr ("segments" : Str) : Key), v0), ((Sum.inr ("base" : Str) : Key), v1), ((Sum.inr ("ring" : Str) : Key), v2), ((Sum.inr ("a" : Str) : Key), v3), ((Sum.inr ("pointers" : Str) : Key), v4), ((Sum.inr ("calls" : Str) : Key), v5)] : List (Key × V)) := by rw [put_no (by rw [valV_neg (by dsimp only; decide +kernel)]; rw [valV_neg (by dsimp only; decide +kernel)]; rw [valV_neg (by dsimp only; decide +kernel)]; rw [valV_neg (by dsimp only; decide +kernel)]; rw [valV_neg (by dsimp only; decide +kernel)]; rfl)]; rfl
theorem pb_memory {v0 v1 v2 v3 v4 v5 v6 : V} : putK ([((Sum.inr ("segments" : Str) : Key), v0), ((Sum.inr ("base" : Str) : Key), v1), ((Sum.inr ("ring" : Str) : Key), v2), ((Sum.inr ("a" : Str) : Key), v3), ((Sum.inr ("pointers" : Str) : Key), v4), ((Sum.inr ("calls" : Str) : Key), v5)] : List (Key × V)) (Sum.inr ("memory" : Str) : Key) v6 = ([((Sum.inr ("segments" : Str) : Key), v0), ((Sum.inr ("base" : Str) : Key), v1), ((Sum.inr ("ring" : Str) : Key), v2), ((Sum.inr ("a" : Str) : Key), v3), ((Sum.inr ("pointers" : Str) : Key), v4), ((Sum.inr ("calls" : Str) : Key), v5), ((Sum.inr ("memory" : Str) : Key), v6)] : List (Key × V)) := by rw [put_no (by rw [valV_neg (by dsimp only; decide +kernel)]; rw [valV_neg (by dsimp only; decide +kernel)]; rw [valV_neg (by dsimp only; decide +kernel)]; rw [valV_neg (by dsimp only; decide +kernel)]; rw [valV_neg (by dsimp only; decide +kernel)]; rw [valV_neg (by dsimp only; decide +kernel)]; rfl)]; rfl
theorem pb_at {v0 v1 v2 v3 v4 v5 v6 v7 : V} : putK ([((Sum.inr ("segments" : Str) : Key), v0), ((Sum.inr ("base" : Str) : Key), v1), ((Sum.inr ("ring" : Str) : Key), v2), ((Sum.inr ("a" : Str) : Key), v3), ((Sum.inr ("pointers" : Str) : Key), v4), ((Sum.inr ("calls" : Str) : Key), v5), ((Sum.inr ("memory" : Str) : Key), v6)] : List (Key × V)) (Sum.inr ("at" : Str) : Key) v7 = ([((Sum.inr ("segments" : Str) : Key), v0), ((Sum.inr ("base" : Str) : Key), v1), ((Sum.inr ("ring" : Str) : Key), v2), ((Sum.inr ("a" : Str) : Key), v3), ((Sum.inr ("pointers" : Str) : Key), v4), ((Sum.inr ("calls" : Str) : Key), v5), ((Sum.inr ("memory" : Str) : Key), v6), ((Sum.inr ("at" : Str) : Key), v7)] : List (Key × V)) := by rw [put_no (by rw [valV_neg (by dsimp only; decide +kernel)]; rw [valV_neg (by dsimp only; decide +kernel)]; rw [valV_neg (by dsimp only; decide +kernel)]; rw [valV_neg (by dsimp only; decide +kernel)]; rw [valV_neg (by dsimp only; decide +kernel)]; rw [valV_neg (by dsimp only; decide +kernel)]; rw [valV_neg (by dsimp only; decide +kernel)]; rfl)]; rfl
theorem pb_touches {v0 v1 v2 v3 v4 v5 v6 v7 v8 : V} : putK ([((Sum.inr ("segments" : Str) : Key), v0), ((Sum.inr ("base" : Str) : Key), v1), ((Sum.inr ("ring" : Str) : Key), v2), ((Sum.inr ("a" : Str) : Key), v3), ((Sum.inr ("pointers" : Str) : Key), v4), ((Sum.inr ("calls" : Str) : Key), v5), ((Sum.inr ("memory" : Str) : Key), v6), ((Sum.inr ("at" : Str) : Key), v7)] : List (Key × V)) (Sum.inr ("touches" : Str) : Key) v8 = ([((Sum.inr ("segments" : Str) : Key), v0), ((Sum.inr ("base" : Str) : Key), v1), ((Sum.inr ("ring" : Str) : Key), v2), ((Sum.inr ("a" : Str) : Key), v3), ((Sum.inr ("pointers" : Str) : Key), v4), ((Sum.inr ("calls" : Str) : Key), v5), ((Sum.inr ("memory" : Str) : Key), v6), ((Sum.inr ("at" : Str) : Key), v7), ((Sum.inr ("touches" : Str) : Key), v8)] : List (Key × V)) := by rw [put_no (by rw [valV_neg (by dsimp only; decide +kernel)]; rw [valV_neg (by dsimp only; decide +kernel)]; rw [valV_neg (by dsimp only; decide +kernel)]; rw [valV_neg (by dsimp only; decide +kernel)]; rw [valV_neg (by dsimp only; decide +kernel)]; rw [valV_neg (by dsimp only; decide +kernel)]; rw [valV_neg (by dsimp only; decide +kernel)]; rw [valV_neg (by dsimp only; decide +kernel)]; rfl)]; rfl
theorem pb_base {v0 v1 : V} : putK ([((Sum.inr ("segments" : Str) : Key), v0)] : List (Key × V)) (Sum.inr ("base" : Str) : Key) v1 = ([((Sum.inr ("segments" : Str) : Key), v0), ((Sum.inr ("base" : Str) : Key), v1)] : List (Key × V)) := by rw [put_no (by rw [valV_neg (by dsimp only; decide +kernel)]; rfl)]; rfl
theorem pb_ring {v0 v1 v2 : V} : putK ([((Sum.inr ("segments" : Str) : Key), v0), ((Sum.inr ("base" : Str) : Key), v1)] : List (Key × V)) (Sum.inr ("ring" : Str) : Key) v2 = ([((Sum.inr ("segments" : Str) : Key), v0), ((Sum.inr ("base" : Str) : Key), v1), ((Sum.inr ("ring" : Str) : Key), v2)] : List (Key × V)) := by rw [put_no (by rw [valV_neg (by dsimp only; decide +kernel)]; rw [valV_neg (by dsimp only; decide +kernel)]; rfl)]; rfl
theorem pb_a {v0 v1 v2 v3 : V} : putK ([((Sum.inr ("segments" : Str) : Key), v0), ((Sum.inr ("base" : Str) : Key), v1), ((Sum.inr ("ring" : Str) : Key), v2)] : List (Key × V)) (Sum.inr ("a" : Str) : Key) v3 = ([((Sum.inr ("segments" : Str) : Key), v0), ((Sum.inr ("base" : Str) : Key), v1), ((Sum.inr ("ring" : Str) : Key), v2), ((Sum.inr ("a" : Str) : Key), v3)] : List (Key × V)) := by rw [put_no (by rw [valV_neg (by dsimp only; decide +kernel)]; rw [valV_neg (by dsimp only; decide +kernel)]; rw [valV_neg (by dsimp only; decide +kernel)]; rfl)]; rfl
theorem pb_pointers {v0 v1 v2 v3 v4 : V} : putK ([((Sum.inr ("segments" : Str) : Key), v0), ((Sum.inr ("base" : Str) : Key), v1), ((Sum.inr ("ring" : Str) : Key), v2), ((Sum.inr ("a" : Str) : Key), v3)] : List (Key × V)) (Sum.inr ("pointers" : Str) : Key) v4 = ([((Sum.inr ("segments" : Str) : Key), v0), ((Sum.inr ("base" : Str) : Key), v1), ((Sum.inr ("ring" : Str) : Key), v2), ((Sum.inr ("a" : Str) : Key), v3), ((Sum.inr ("pointers" : Str) : Key), v4)] : List (Key × V)) := by rw [put_no (by rw [valV_neg (by dsimp only; decide +kernel)]; rw [valV_neg (by dsimp only; decide +kernel)]; rw [valV_neg (by dsimp only; decide +kernel)]; rw [valV_neg (by dsimp only; decide +kernel)]; rfl)]; rfl
theorem pb_merge {v0 v1 v2 v3 v4 : V} : mergeK [] ([((Sum.inr ("segments" : Str) : Key), v0), ((Sum.inr ("base" : Str) : Key), v1), ((Sum.inr ("ring" : Str) : Key), v2), ((Sum.inr ("a" : Str) : Key), v3), ((Sum.inr ("pointers" : Str) : Key), v4)] : List (Key × V)) = ([((Sum.inr ("segments" : Str) : Key), v0), ((Sum.inr ("base" : Str) : Key), v1), ((Sum.inr ("ring" : Str) : Key), v2), ((Sum.inr ("a" : Str) : Key), v3), ((Sum.inr ("pointers" : Str) : Key), v4)] : List (Key × V)) := by unfold mergeK; rw [List.foldl_cons, show putK ([] : List (Key × V)) (Sum.inr ("segments" : Str) : Key) v0 = [((Sum.inr ("segments" : Str) : Key), v0)] from put_no rfl, List.foldl_cons, pb_base, List.foldl_cons, pb_ring, List.foldl_cons, pb_a, List.foldl_cons, pb_pointers, List.foldl_nil]
/-- the world while the hand is at it -/
structure WA (H : Hp) (wd L : Addr) (b : Int) (lp lc lm lt : Addr) (as : List Addr) (s : Rn) : Prop where
  hx : H wd = some (.dK (wF (.ref L) (.int b) (.int s.ring) (.int s.a) (.ref lp) (.ref lc) (.ref lm) .non (.ref lt)))
  hp : ∃ v, H lp = some (.lst v) ∧ RpAll H v (s.pt.map ptD)
  hc : H lc = some (.lst [])
  hm : H lm = some (.lst (as.map V.ref))
  la : as.length = s.me.length
  ha : ∀ (i : Nat) (a : Addr) (ws : List Wd), as[i]? = some a → s.me[i]? = some ws → ∃ v, H a = some (.lst v) ∧ RpAll H v (ws.map Wd.d)
  ht : ∃ v, H lt = some (.lst v) ∧ RpAll H v (s.to.map toD)
  nd : (lp :: lc :: lm :: lt :: as).Nodup
section
variable {H H' : Hp} {wd L lp lc lm lt : Addr} {b : Int} {as : List Addr} {s : Rn}
theorem WA.same (R : WA H wd L b lp lc lm lt as s) (e : Same H H') : WA H' wd L b lp lc lm lt as s where
  hx := e _ _ R.hx
  hp := let ⟨v, h, r⟩ := R.hp; ⟨v, e _ _ h, r.keep (Tk.of e)⟩
  hc := e _ _ R.hc
  hm := e _ _ R.hm
  la := R.la
  ha := fun i a ws h1 h2 => let ⟨v, h, r⟩ := R.ha i a ws h1 h2; ⟨v, e _ _ h, r.keep (Tk.of e)⟩
  ht := let ⟨v, h, r⟩ := R.ht; ⟨v, e _ _ h, r.keep (Tk.of e)⟩
  nd := R.nd
theorem Tk.dct {q : Addr} {o : HO} {kvs : List (Key × V)} (h : H q = some (.dK kvs)) : Tk H (upd H q o) := fun c xs e => by rw [upd_ne (ne_of e h (fun z => nomatch z))]; exact e
/-- a becomes another number -/
theorem WA.setA (R : WA H wd L b lp lc lm lt as s) (n : Int) : WA (upd H wd (.dK (putK (wF (.ref L) (.int b) (.int s.ring) (.int s.a) (.ref lp) (.ref lc) (.ref lm) .non (.ref lt)) (Sum.inr ("a" : Str) : Key) (.int n)))) wd L b lp lc lm lt as { s with a := n } := by
  rw [pw_a]
  have tk : Tk H (upd H wd (.dK (wF (.ref L) (.int b) (.int s.ring) (.int n) (.ref lp) (.ref lc) (.ref lm) .non (.ref lt)))) := Tk.dct R.hx
  have ne : ∀ {q : Addr} {v : List V}, H q = some (.lst v) → upd H wd (.dK (wF (.ref L) (.int b) (.int s.ring) (.int n) (.ref lp) (.ref lc) (.ref lm) .non (.ref lt))) q = some (.lst v) := fun {q v} h => (upd_ne (ne_of h R.hx (fun z => nomatch z))).trans h
  exact ⟨upd_same, let ⟨v, h, r⟩ := R.hp; ⟨v, ne h, r.keep tk⟩, ne R.hc, ne R.hm, R.la, fun i a ws h1 h2 => let ⟨v, h, r⟩ := R.ha i a ws h1 h2; ⟨v, ne h, r.keep tk⟩, let ⟨v, h, r⟩ := R.ht; ⟨v, ne h, r.keep tk⟩, R.nd⟩
theorem WA.wne (R : WA H wd L b lp lc lm lt as s) {q : Addr} {v : List V} (h : H q = some (.lst v)) : q ≠ wd := ne_of h R.hx (fun z => nomatch z)
theorem WA.setT (R : WA H wd L b lp lc lm lt as s) {v1 : List V} {to : List (Int × Int × Int × Str)} (r : RpAll H v1 (to.map toD)) : WA (upd H lt (.lst v1)) wd L b lp lc lm lt as { s with to := to } := by
  obtain ⟨v0, h0, _⟩ := R.ht
  have tk : Tk H (upd H lt (.lst v1)) := Tk.lst h0
  have hn := R.nd
  simp only [List.nodup_cons, List.mem_cons, not_or] at hn
  obtain ⟨⟨a1, a2, a3, a4⟩, ⟨b1, b2, b3⟩, ⟨c1, c2⟩, d1, n⟩ := hn
  exact ⟨(upd_ne (Ne.symm (R.wne h0))).trans R.hx, let ⟨v, h, r⟩ := R.hp; ⟨v, (upd_ne a3).trans h, r.keep tk⟩, (upd_ne b2).trans R.hc, (upd_ne c1).trans R.hm, R.la, fun i a ws h1 h2 => let ⟨v, h, r⟩ := R.ha i a ws h1 h2; ⟨v, (upd_ne (show a ≠ lt from fun z => d1 (z ▸ List.mem_of_getElem? h1))).trans h, r.keep tk⟩, ⟨v1, upd_same, r.keep tk⟩, R.nd⟩
theorem WA.setM (R : WA H wd L b lp lc lm lt as s) {g : Nat} {q : Addr} {v1 : List V} {ws : List Wd} (hq : as[g]? = some q) (r : RpAll H v1 (ws.map Wd.d)) : WA (upd H q (.lst v1)) wd L b lp lc lm lt as { s with me := s.me.set g ws } := by
  have hg : g < s.me.length := R.la ▸ (List.getElem?_eq_some_iff.mp hq).1
  obtain ⟨v0, h0, _⟩ := R.ha g q _ hq (List.getElem?_eq_getElem hg)
  have tk : Tk H (upd H q (.lst v1)) := Tk.lst h0
  have hn := R.nd
  simp only [List.nodup_cons, List.mem_cons, not_or] at hn
  obtain ⟨⟨a1, a2, a3, a4⟩, ⟨b1, b2, b3⟩, ⟨c1, c2⟩, d1, n⟩ := hn
  have mq := List.mem_of_getElem? hq
  refine ⟨(upd_ne (Ne.symm (R.wne h0))).trans R.hx, let ⟨v, h, r⟩ := R.hp; ⟨v, (upd_ne (show lp ≠ q from fun z => a4 (z.symm ▸ mq))).trans h, r.keep tk⟩, (upd_ne (show lc ≠ q from fun z => b3 (z.symm ▸ mq))).trans R.hc, (upd_ne (show lm ≠ q from fun z => c2 (z.symm ▸ mq))).trans R.hm, by show as.length = (s.me.set g ws).length; rw [List.length_set]; exact R.la, fun i a ws' h1 h2 => ?_, let ⟨v, h, r⟩ := R.ht; ⟨v, (upd_ne (show lt ≠ q from fun z => d1 (z.symm ▸ mq))).trans h, r.keep tk⟩, R.nd⟩
  have h2' : (s.me.set g ws)[i]? = some ws' := h2
  by_cases e : i = g
  · subst e
    rw [List.getElem?_set_self hg] at h2'
    cases h2'
    rw [hq] at h1
    cases h1
    exact ⟨v1, upd_same, r.keep tk⟩
  · rw [List.getElem?_set_ne (Ne.symm e)] at h2'
    obtain ⟨v, e1, e2⟩ := R.ha i a ws' h1 h2'
    refine ⟨v, (upd_ne fun z => e ?_).trans e1, e2.keep tk⟩
    have l1 := (List.getElem?_eq_some_iff.mp h1)
    have l2 := (List.getElem?_eq_some_iff.mp hq)
    exact (List.getElem_inj (h₀ := l1.1) (h₁ := l2.1) n).mp (l1.2.trans (z.trans l2.2.symm))
end
theorem rd_dget {td ty : TE} {σ : L2.St} {H : Hp} {Q : VK} (h : td σ H fun x H1 => ty σ H1 fun y H2 => ∃ a v, x = V.ref a ∧ DGet H2 a y (some v) ∧ Q v H2) : tDGet td ty σ H Q := h
theorem dg {H : Hp} {a : Addr} {kvs : List (Key × V)} {k : Str} {v : V} (e : H a = some (.dK kvs)) (h : valV kvs (Sum.inr k) = some v) : DGet H a (.str k) (some v) := h ▸ DGet.k (k := Sum.inr k) e
theorem rd_dput {td ty tv : TE} {D : Ends} {σ : L2.St} {H : Hp} (h : tv σ H fun v H1 => td σ H1 fun x H2 => ty σ H2 fun y H3 => ∃ a H4, x = V.ref a ∧ DPut H3 a y v H4 ∧ D.nx σ H4) : sDPut td ty tv D σ H := h
end Rg

/-! pointers by the hand -/
namespace Rg
open PySem PySem.Spec PyProof.Rows L2
theorem mx2 {a b : Int} : nuMax2 (.int a) (.int b) = some (.int (mx a b)) := by
  have h : nuLt (.int a) (.int b) = some (decide (a < b)) := rfl
  unfold nuMax2 mx
  rw [h]
  by_cases c : a < b
  · rw [decide_eq_true c, if_pos (show b > a from c)]; rfl
  · rw [decide_eq_false c, if_neg (show ¬ b > a from c)]; rfl
theorem mx3 {a b c : Int} : nuMax3 (.int a) (.int b) (.int c) = some (.int (mx (mx a b) c)) := by
  unfold nuMax3
  rw [mx2]
  exact mx2
theorem rd_max3 {a b c : Int} {H : Hp} {Q : VK} (h : Q (.int (mx (mx a b) c)) H) : rNuC3 nuMax3 [.int a, .int b, .int c] H Q := ⟨_, _, _, _, rfl, mx3, h⟩
section
variable {H H' : Hp} {wd L lp lc lm lt : Addr} {b : Int} {as : List Addr} {s : Rn}
theorem WA.setP (R : WA H wd L b lp lc lm lt as s) {v1 : List V} {pt : List Pt} (r : RpAll H v1 (pt.map ptD)) : WA (upd H lp (.lst v1)) wd L b lp lc lm lt as { s with pt := pt } := by
  obtain ⟨v0, h0, _⟩ := R.hp
  have tk : Tk H (upd H lp (.lst v1)) := Tk.lst h0
  have hn := R.nd
  simp only [List.nodup_cons, List.mem_cons, not_or] at hn
  obtain ⟨⟨a1, a2, a3, a4⟩, ⟨b1, b2, b3⟩, ⟨c1, c2⟩, d1, n⟩ := hn
  exact ⟨(upd_ne (Ne.symm (R.wne h0))).trans R.hx, ⟨v1, upd_same, r.keep tk⟩, (upd_ne (Ne.symm a1)).trans R.hc, (upd_ne (Ne.symm a2)).trans R.hm, R.la, fun i a ws h1 h2 => let ⟨v, h, r⟩ := R.ha i a ws h1 h2; ⟨v, (upd_ne (show a ≠ lp from fun z => a4 (z ▸ List.mem_of_getElem? h1))).trans h, r.keep tk⟩, let ⟨v, h, r⟩ := R.ht; ⟨v, (upd_ne (Ne.symm a3)).trans h, r.keep tk⟩, R.nd⟩
end
end Rg

/-! the law's own world, rows that run too -/
namespace Rg
open PySem PySem.Spec PyProof.Rows L2
/-- where the rows run: None, or a list of two -/
def AtV (H : Hp) (no : List Addr) (va : V) : Option (Int × Int) → Prop
  | none => va = .non
  | some (g, p) => ∃ q, va = .ref q ∧ H q = some (.lst [.int g, .int p]) ∧ q ∉ no
def CaAll (H : Hp) (no : List Addr) : List V → List (Int × Option (Int × Int)) → Prop
  | [], [] => True
  | u :: v, c :: r => (∃ q va, u = .ref q ∧ H q = some (.tup [.int c.1, va]) ∧ AtV H no va c.2) ∧ CaAll H no v r
  | _, _ => False
theorem AtV.keep {H H' : Hp} {no no' : List Addr} {va : V} (h : ∀ q v, H q = some (.lst v) → q ∉ no → H' q = some (.lst v) ∧ q ∉ no') : ∀ {w : Option (Int × Int)}, AtV H no va w → AtV H' no' va w
  | none, e => e
  | some (_, _), ⟨q, e, h1, h2⟩ => ⟨q, e, (h q _ h1 h2).1, (h q _ h1 h2).2⟩
theorem CaAll.keep {H H' : Hp} {no no' : List Addr} (h : ∀ q v, H q = some (.lst v) → q ∉ no → H' q = some (.lst v) ∧ q ∉ no') (tk : Tk H H') : ∀ {v : List V} {ca : List (Int × Option (Int × Int))}, CaAll H no v ca → CaAll H' no' v ca
  | [], [], _ => trivial
  | _ :: _, _ :: _, ⟨⟨q, va, e, h1, h2⟩, t⟩ => ⟨⟨q, va, e, tk _ _ h1, h2.keep h⟩, CaAll.keep h tk t⟩
  | [], _ :: _, h => h.elim
  | _ :: _, [], h => h.elim
theorem CaAll.len {H : Hp} {no : List Addr} : ∀ {v : List V} {ca : List (Int × Option (Int × Int))}, CaAll H no v ca → v.length = ca.length
  | [], [], _ => rfl
  | _ :: _, _ :: _, ⟨_, t⟩ => by rw [List.length_cons, List.length_cons, t.len]
  | [], _ :: _, h => h.elim
  | _ :: _, [], h => h.elim
theorem CaAll.snoc {H : Hp} {no : List Addr} {u : V} {c : Int × Option (Int × Int)} (hu : ∃ q va, u = .ref q ∧ H q = some (.tup [.int c.1, va]) ∧ AtV H no va c.2) : ∀ {v : List V} {ca : List (Int × Option (Int × Int))}, CaAll H no v ca → CaAll H no (v ++ [u]) (ca ++ [c])
  | [], [], _ => ⟨hu, trivial⟩
  | _ :: _, _ :: _, ⟨h, t⟩ => ⟨h, t.snoc hu⟩
  | [], _ :: _, h => h.elim
  | _ :: _, [], h => h.elim
theorem CaAll.unsnoc {H : Hp} {no : List Addr} : ∀ {v : List V} {ca : List (Int × Option (Int × Int))} {c : Int × Option (Int × Int)}, CaAll H no v ca → ca.getLast? = some c → ∃ v' q va, v = v' ++ [.ref q] ∧ H q = some (.tup [.int c.1, va]) ∧ AtV H no va c.2 ∧ CaAll H no v' ca.dropLast
  | [], [], _, _, e => by cases e
  | [u], [c1], c, ⟨⟨q, va, e0, h1, h2⟩, _⟩, e => by
    subst e0
    cases e
    exact ⟨[], q, va, rfl, h1, h2, trivial⟩
  | u :: u' :: v, c1 :: c2 :: r, c, ⟨h, t⟩, e => by
    rw [List.getLast?_cons_cons] at e
    obtain ⟨v', q, va, e1, h1, h2, t'⟩ := CaAll.unsnoc t e
    exact ⟨u :: v', q, va, by rw [e1]; rfl, h1, h2, h, t'⟩
  | [_], _ :: _ :: _, _, ⟨_, h⟩, _ => h.elim
  | _ :: _ :: _, [_], _, ⟨_, h⟩, _ => h.elim
  | [], _ :: _, _, h, _ => h.elim
  | _ :: _, [], _, h, _ => h.elim
/-- the world while a deed is done -/
structure WG (H : Hp) (wd L : Addr) (b : Int) (lp lc lm lt : Addr) (as : List Addr) (va : V) (s : Rn) : Prop where
  hx : H wd = some (.dK (wF (.ref L) (.int b) (.int s.ring) (.int s.a) (.ref lp) (.ref lc) (.ref lm) va (.ref lt)))
  hp : ∃ v, H lp = some (.lst v) ∧ RpAll H v (s.pt.map ptD)
  hc : ∃ v, H lc = some (.lst v) ∧ CaAll H (lp :: lc :: lm :: lt :: as) v s.ca
  hm : H lm = some (.lst (as.map V.ref))
  la : as.length = s.me.length
  ha : ∀ (i : Nat) (a : Addr) (ws : List Wd), as[i]? = some a → s.me[i]? = some ws → ∃ v, H a = some (.lst v) ∧ RpAll H v (ws.map Wd.d)
  ht : ∃ v, H lt = some (.lst v) ∧ RpAll H v (s.to.map toD)
  nd : (lp :: lc :: lm :: lt :: as).Nodup
  hv : AtV H (lp :: lc :: lm :: lt :: as) va s.wh
section
variable {H H' : Hp} {wd L lp lc lm lt : Addr} {b : Int} {as : List Addr} {va : V} {s : Rn}
theorem WG.same (R : WG H wd L b lp lc lm lt as va s) (e : Same H H') : WG H' wd L b lp lc lm lt as va s where
  hx := e _ _ R.hx
  hp := let ⟨v, h, r⟩ := R.hp; ⟨v, e _ _ h, r.keep (Tk.of e)⟩
  hc := let ⟨v, h, r⟩ := R.hc; ⟨v, e _ _ h, r.keep (fun q v h n => ⟨e _ _ h, n⟩) (Tk.of e)⟩
  hm := e _ _ R.hm
  la := R.la
  ha := fun i a ws h1 h2 => let ⟨v, h, r⟩ := R.ha i a ws h1 h2; ⟨v, e _ _ h, r.keep (Tk.of e)⟩
  ht := let ⟨v, h, r⟩ := R.ht; ⟨v, e _ _ h, r.keep (Tk.of e)⟩
  nd := R.nd
  hv := R.hv.keep fun q v h n => ⟨e _ _ h, n⟩
theorem WG.wne (R : WG H wd L b lp lc lm lt as va s) {q : Addr} {v : List V} (h : H q = some (.lst v)) : q ≠ wd := ne_of h R.hx (fun z => nomatch z)
/-- one of the lists becomes another -/
theorem WG.lists (R : WG H wd L b lp lc lm lt as va s) {q : Addr} {v0 v1 : List V} (hq : H q = some (.lst v0)) (hn : q ∈ lp :: lc :: lm :: lt :: as) (s' : Rn) (er : s'.ring = s.ring) (ea : s'.a = s.a) (ew : s'.wh = s.wh) (el : s'.me.length = s.me.length)
    (h1 : (q = lp ∧ RpAll H v1 (s'.pt.map ptD)) ∨ (q ≠ lp ∧ s'.pt = s.pt)) (h2 : (q = lc ∧ CaAll H (lp :: lc :: lm :: lt :: as) v1 s'.ca) ∨ (q ≠ lc ∧ s'.ca = s.ca)) (h3 : q ≠ lm) (h4 : (q = lt ∧ RpAll H v1 (s'.to.map toD)) ∨ (q ≠ lt ∧ s'.to = s.to))
    (h5 : ∀ (i : Nat) (a : Addr) (ws : List Wd), as[i]? = some a → s'.me[i]? = some ws → (a = q ∧ RpAll H v1 (ws.map Wd.d)) ∨ (a ≠ q ∧ s.me[i]? = some ws)) : WG (upd H q (.lst v1)) wd L b lp lc lm lt as va s' := by
  have tk : Tk H (upd H q (.lst v1)) := Tk.lst hq
  have kp : ∀ c v, H c = some (.lst v) → c ∉ lp :: lc :: lm :: lt :: as → upd H q (.lst v1) c = some (.lst v) ∧ c ∉ lp :: lc :: lm :: lt :: as := fun c v h n => ⟨(upd_ne fun (z : c = q) => n (by rw [z]; exact hn)).trans h, n⟩
  refine ⟨?_, ?_, ?_, (upd_ne (Ne.symm h3)).trans R.hm, R.la.trans el.symm, fun i a ws e1 e2 => ?_, ?_, R.nd, ?_⟩
  · rw [er, ea]
    exact (upd_ne (Ne.symm (R.wne hq))).trans R.hx
  · rcases h1 with ⟨rfl, h⟩ | ⟨h, e⟩
    · exact ⟨v1, upd_same, h.keep tk⟩
    · obtain ⟨v, e1, r⟩ := R.hp
      rw [e]
      exact ⟨v, (upd_ne (Ne.symm h)).trans e1, r.keep tk⟩
  · rcases h2 with ⟨rfl, h⟩ | ⟨h, e⟩
    · exact ⟨v1, upd_same, h.keep kp tk⟩
    · obtain ⟨v, e1, r⟩ := R.hc
      rw [e]
      exact ⟨v, (upd_ne (Ne.symm h)).trans e1, r.keep kp tk⟩
  · rcases h5 i a ws e1 e2 with ⟨rfl, h⟩ | ⟨h, e⟩
    · exact ⟨v1, upd_same, h.keep tk⟩
    · obtain ⟨v, e3, r⟩ := R.ha i a ws e1 e
      exact ⟨v, (upd_ne h).trans e3, r.keep tk⟩
  · rcases h4 with ⟨rfl, h⟩ | ⟨h, e⟩
    · exact ⟨v1, upd_same, h.keep tk⟩
    · obtain ⟨v, e1, r⟩ := R.ht
      rw [e]
      exact ⟨v, (upd_ne (Ne.symm h)).trans e1, r.keep tk⟩
  · rw [ew]
    exact R.hv.keep kp
theorem WG.setT (R : WG H wd L b lp lc lm lt as va s) {v1 : List V} {to : List (Int × Int × Int × Str)} (r : RpAll H v1 (to.map toD)) : WG (upd H lt (.lst v1)) wd L b lp lc lm lt as va { s with to := to } := by
  obtain ⟨v0, h0, _⟩ := R.ht
  have hn := R.nd
  simp only [List.nodup_cons, List.mem_cons, not_or] at hn
  obtain ⟨⟨a1, a2, a3, a4⟩, ⟨b1, b2, b3⟩, ⟨c1, c2⟩, d1, n⟩ := hn
  exact R.lists h0 (by simp) _ rfl rfl rfl rfl (.inr ⟨Ne.symm a3, rfl⟩) (.inr ⟨Ne.symm b2, rfl⟩) (Ne.symm c1) (.inl ⟨rfl, r⟩) fun i a ws e1 e2 => .inr ⟨fun z => d1 (z ▸ List.mem_of_getElem? e1), e2⟩
theorem WG.setP (R : WG H wd L b lp lc lm lt as va s) {v1 : List V} {pt : List Pt} (r : RpAll H v1 (pt.map ptD)) : WG (upd H lp (.lst v1)) wd L b lp lc lm lt as va { s with pt := pt } := by
  obtain ⟨v0, h0, _⟩ := R.hp
  have hn := R.nd
  simp only [List.nodup_cons, List.mem_cons, not_or] at hn
  obtain ⟨⟨a1, a2, a3, a4⟩, ⟨b1, b2, b3⟩, ⟨c1, c2⟩, d1, n⟩ := hn
  exact R.lists h0 (by simp) _ rfl rfl rfl rfl (.inl ⟨rfl, r⟩) (.inr ⟨a1, rfl⟩) a2 (.inr ⟨a3, rfl⟩) fun i a ws e1 e2 => .inr ⟨fun z => a4 (z ▸ List.mem_of_getElem? e1), e2⟩
theorem WG.setC (R : WG H wd L b lp lc lm lt as va s) {v1 : List V} {ca : List (Int × Option (Int × Int))} (r : CaAll H (lp :: lc :: lm :: lt :: as) v1 ca) : WG (upd H lc (.lst v1)) wd L b lp lc lm lt as va { s with ca := ca } := by
  obtain ⟨v0, h0, _⟩ := R.hc
  have hn := R.nd
  simp only [List.nodup_cons, List.mem_cons, not_or] at hn
  obtain ⟨⟨a1, a2, a3, a4⟩, ⟨b1, b2, b3⟩, ⟨c1, c2⟩, d1, n⟩ := hn
  exact R.lists h0 (by simp) _ rfl rfl rfl rfl (.inr ⟨Ne.symm a1, rfl⟩) (.inl ⟨rfl, r⟩) b1 (.inr ⟨b2, rfl⟩) fun i a ws e1 e2 => .inr ⟨fun z => b3 (z ▸ List.mem_of_getElem? e1), e2⟩
theorem WG.setM (R : WG H wd L b lp lc lm lt as va s) {g : Nat} {q : Addr} {v1 : List V} {ws : List Wd} (hq : as[g]? = some q) (r : RpAll H v1 (ws.map Wd.d)) : WG (upd H q (.lst v1)) wd L b lp lc lm lt as va { s with me := s.me.set g ws } := by
  have hg : g < s.me.length := R.la ▸ (List.getElem?_eq_some_iff.mp hq).1
  obtain ⟨v0, h0, _⟩ := R.ha g q _ hq (List.getElem?_eq_getElem hg)
  have hn := R.nd
  simp only [List.nodup_cons, List.mem_cons, not_or] at hn
  obtain ⟨⟨a1, a2, a3, a4⟩, ⟨b1, b2, b3⟩, ⟨c1, c2⟩, d1, n⟩ := hn
  have mq := List.mem_of_getElem? hq
  refine R.lists h0 (by simp [mq]) _ rfl rfl rfl (by show (s.me.set g ws).length = s.me.length; rw [List.length_set]) (.inr ⟨fun z => a4 (z ▸ mq), rfl⟩) (.inr ⟨fun z => b3 (z ▸ mq), rfl⟩) (fun z => c2 (z ▸ mq)) (.inr ⟨fun z => d1 (z ▸ mq), rfl⟩) fun i a ws' h1 h2 => ?_
  have h2' : (s.me.set g ws)[i]? = some ws' := h2
  by_cases e : i = g
  · subst e
    rw [List.getElem?_set_self hg] at h2'
    cases h2'
    rw [hq] at h1
    cases h1
    exact .inl ⟨rfl, r⟩
  · rw [List.getElem?_set_ne (Ne.symm e)] at h2'
    refine .inr ⟨fun z => e ?_, h2'⟩
    have l1 := (List.getElem?_eq_some_iff.mp h1)
    have l2 := (List.getElem?_eq_some_iff.mp hq)
    exact (List.getElem_inj (h₀ := l1.1) (h₁ := l2.1) n).mp (l1.2.trans (z.trans l2.2.symm))
/-- the dict becomes another -/
theorem WG.dict (R : WG H wd L b lp lc lm lt as va s) (s' : Rn) {va' : V} (ep : s'.pt = s.pt) (ec : s'.ca = s.ca) (em : s'.me = s.me) (et : s'.to = s.to) (hv : AtV H (lp :: lc :: lm :: lt :: as) va' s'.wh) :
    WG (upd H wd (.dK (wF (.ref L) (.int b) (.int s'.ring) (.int s'.a) (.ref lp) (.ref lc) (.ref lm) va' (.ref lt)))) wd L b lp lc lm lt as va' s' := by
  have tk : Tk H (upd H wd (.dK (wF (.ref L) (.int b) (.int s'.ring) (.int s'.a) (.ref lp) (.ref lc) (.ref lm) va' (.ref lt)))) := Tk.dct R.hx
  have ne : ∀ {q : Addr} {v : List V}, H q = some (.lst v) → upd H wd (.dK (wF (.ref L) (.int b) (.int s'.ring) (.int s'.a) (.ref lp) (.ref lc) (.ref lm) va' (.ref lt))) q = some (.lst v) := fun {q v} h => (upd_ne (ne_of h R.hx (fun z => nomatch z))).trans h
  exact ⟨upd_same, let ⟨v, h, r⟩ := R.hp; ⟨v, ne h, ep ▸ r.keep tk⟩, let ⟨v, h, r⟩ := R.hc; ⟨v, ne h, ec ▸ r.keep (fun q v h n => ⟨ne h, n⟩) tk⟩, ne R.hm, em ▸ R.la, fun i a ws h1 h2 => let ⟨v, h, r⟩ := R.ha i a ws h1 (em ▸ h2); ⟨v, ne h, r.keep tk⟩, let ⟨v, h, r⟩ := R.ht; ⟨v, ne h, et ▸ r.keep tk⟩, R.nd, hv.keep fun q v h n => ⟨ne h, n⟩⟩
theorem WG.setA (R : WG H wd L b lp lc lm lt as va s) (n : Int) : WG (upd H wd (.dK (putK (wF (.ref L) (.int b) (.int s.ring) (.int s.a) (.ref lp) (.ref lc) (.ref lm) va (.ref lt)) (Sum.inr ("a" : Str) : Key) (.int n)))) wd L b lp lc lm lt as va { s with a := n } := by
  rw [pw_a]
  exact R.dict { s with a := n } rfl rfl rfl rfl R.hv
/-- the pointers become another list -/
theorem WG.newP (R : WG H wd L b lp lc lm lt as va s) {lq : Addr} {v1 : List V} {pt : List Pt} (hq : H lq = some (.lst v1)) (r : RpAll H v1 (pt.map ptD)) (h2 : lq ∉ lp :: lc :: lm :: lt :: as) (hc : ∃ v, H lc = some (.lst v) ∧ CaAll H (lq :: lc :: lm :: lt :: as) v s.ca) (hv : AtV H (lq :: lc :: lm :: lt :: as) va s.wh) :
    WG (upd H wd (.dK (wF (.ref L) (.int b) (.int s.ring) (.int s.a) (.ref lq) (.ref lc) (.ref lm) va (.ref lt)))) wd L b lq lc lm lt as va { s with pt := pt } := by
  have tk : Tk H (upd H wd (.dK (wF (.ref L) (.int b) (.int s.ring) (.int s.a) (.ref lq) (.ref lc) (.ref lm) va (.ref lt)))) := Tk.dct R.hx
  have ne : ∀ {q : Addr} {v : List V}, H q = some (.lst v) → upd H wd (.dK (wF (.ref L) (.int b) (.int s.ring) (.int s.a) (.ref lq) (.ref lc) (.ref lm) va (.ref lt))) q = some (.lst v) := fun {q v} h => (upd_ne (ne_of h R.hx (fun z => nomatch z))).trans h
  have hn := R.nd
  simp only [List.mem_cons, not_or] at h2
  refine ⟨upd_same, ⟨v1, ne hq, r.keep tk⟩, let ⟨v, h, r⟩ := hc; ⟨v, ne h, r.keep (fun q v h n => ⟨ne h, n⟩) tk⟩, ne R.hm, R.la, fun i a ws h1 h2 => let ⟨v, h, r⟩ := R.ha i a ws h1 h2; ⟨v, ne h, r.keep tk⟩, let ⟨v, h, r⟩ := R.ht; ⟨v, ne h, r.keep tk⟩, ?_, hv.keep fun q v h n => ⟨ne h, n⟩⟩
  have hn' := (List.nodup_cons.mp hn).2
  refine List.nodup_cons.mpr ⟨?_, hn'⟩
  simp only [List.mem_cons, not_or]
  exact h2.2
end
/-- two readings of one def -/
theorem FnOk.or {P : Program} {w : World} {K : PySem.W.Frag} {mg : Str → Option Value} {base : Heap} {CX : CXT} {k : Nat} {f : Addr} {fd : FuncData} {ps : List Str} {sp sp' : Sp} (A : FnOk P w K mg base CX k f fd ps sp) (B : FnOk P w K mg base CX k f fd ps sp') : FnOk P w K mg base CX k f fd ps (fun vs H Q E => sp vs H Q E ∨ sp' vs H Q E) :=
  ⟨fun vs H Q E h => h.elim (A.len vs H Q E) (B.len vs H Q E), fun A1 o s H a us vs Q E r e b v h => h.elim (A.run A1 o s H a us vs Q E r e b v) (B.run A1 o s H a us vs Q E r e b v)⟩
structure WGt (H0 H : Hp) (wd L : Addr) (b : Int) (s : Rn) : Prop where
  ex : ∃ lp lc lm lt as va, WG H wd L b lp lc lm lt as va s ∧ ∀ a ∈ wd :: lp :: lc :: lm :: lt :: as, H0 a = none
  sm : Same H0 H
theorem WGt.same {H0 H H' : Hp} {wd L : Addr} {b : Int} {s : Rn} (R : WGt H0 H wd L b s) (e : Same H H') : WGt H0 H' wd L b s :=
  let ⟨lp, lc, lm, lt, as, va, r, n⟩ := R.ex; ⟨⟨lp, lc, lm, lt, as, va, r.same e, n⟩, R.sm.trans e⟩
def fltG : Option Str → V
  | none => .non
  | some c => .str c
def GEnd (Q : VK) (H0 H : Hp) (wd L : Addr) (b : Int) (res : Rn × Option Str) : Prop := ∀ H', WGt H0 H' wd L b res.1 → Tk H H' → Q (fltG res.2) H'
end Rg

/-! {x!r} of a deed: some bounded text -/
namespace Rg
open PySem PySem.Spec PyProof.Rows L2
theorem repr_ints {prog : Program} {w : World} : ∀ {ns : List Int} {its : List Value}, Vals (ns.map V.int) its → (∀ n ∈ ns, n.natAbs.log2 < 1920) → ReprAll prog w its (ns.map fun n => (toString n : Str))
  | [], _, r, _ => by
    cases r
    exact .nil
  | n :: ns, _, r, h => by
    cases r with
    | cons r1 r2 =>
      obtain ⟨t, rfl⟩ := r1
      exact .cons (ReprIs.int t (h n List.mem_cons_self)) (repr_ints r2 fun z hz => h z (List.mem_cons_of_mem _ hz))
theorem piled_ints : ∀ {ns : List Int}, (∀ n ∈ ns, n.natAbs.log2 < 1920) → piled (ns.map fun n => (toString n : Str)) ≤ 1923 * ns.length
  | [], _ => Nat.zero_le _
  | n :: ns, h => by
    rw [List.map_cons, piled_cons, List.length_cons]
    have h1 := PyProof.Rows.int_text_len_1921 (h n List.mem_cons_self)
    have h2 := piled_ints (ns := ns) fun z hz => h z (List.mem_cons_of_mem _ hz)
    omega
/-- a deed that an error may be made with -/
def RblD (v : V) (H : Hp) : Prop := ∃ (p : Addr) (op : Str) (ns : List Int), v = .ref p ∧ H p = some (.tup (.str op :: ns.map V.int)) ∧ (∀ c ∈ op.cps.toList, c < 16 ^ 8) ∧ op.length ≤ 10 ∧ ns.length ≤ 4 ∧ ∀ n ∈ ns, n.natAbs.log2 < 1920
def tFmtD (te : TE) : TE := fun σ H Q => te σ H fun x H1 => RblD x H1 ∧ ∀ y : Str, y.length ≤ 8000 → Q (.str y) H1
theorem pe_fmtD {X : Cx} {e : Expr} {te : TE} {pos : Pos} {k : Nat} (hr : Room k X.A) (he : PE X e te) : PE X (.FormattedValue e 114 none pos) (tFmtD te) := by
  refine ⟨fun pins s σ H Q I h => ?_⟩
  refine wpAny_FormattedValue_repr (thn (he.run pins s σ H _ I h) fun v s1 ⟨x, H1, I1, r1, ⟨p, op, ns, hx, hp, hc, ho, hn, hi⟩, q⟩ => ?_)
  subst hx
  cases r1
  obtain ⟨its, rv, ⟨o, ho', hcl, n, hd⟩, _⟩ := I1.tuple (SqT.of hp)
  have hu := hr.un
  cases its with
  | nil => cases rv
  | cons i0 its =>
    cases rv with
    | cons r0 rr =>
      obtain ⟨t0, rfl⟩ := r0
      have l1 := StrLaws.reprText_len op hc
      have l2 := piled_ints hi
      have hsz : (reprText op).length ≤ sizeLine := by
        have := sizeLine_eq
        omega
      have hT : ReprAll X.prog X.w (Value.str op t0 :: its) (reprText op :: ns.map fun n => (toString n : Str)) := .cons (ReprIs.str op t0 hsz) (repr_ints rr hi)
      have htx := fmt_text (reprText op :: ns.map fun n => (toString n : Str))
      rw [piled_cons] at htx
      have hb : (tupleText (reprText op :: ns.map fun n => (toString n : Str))).length + 5 ≤ 8000 := by omega
      refine wpAny_pyReprObj_slot (by omega) ⟨o, ho', hcl⟩ F.slot_tuple_repr ?_
      refine fmt_tuple_repr ho' hcl hd hT (by have := sizeLine_eq; omega) fun m u tk hm => ⟨m, u, rfl, ?_⟩
      exact wpAny_formatField_str ⟨.str m, H1, I1.tok _, ⟨_, rfl⟩, q m (by omega)⟩ ⟨.str m, H1, I1.tok _, ⟨_, rfl⟩, q m (by omega)⟩ (by have := sizeLine_eq; omega)
/-! ### the refusals, made with a deed -/
theorem RblD.same {v : V} {H H' : Hp} (h : RblD v H) (s : Same H H') : RblD v H' := by
  obtain ⟨p, op, ns, e, hp, a, b, c, d⟩ := h
  exact ⟨p, op, ns, e, s _ _ hp, a, b, c, d⟩
def spRD (K : PySem.W.Frag) : Sp := fun vs H Q _ => ∃ (a C : Addr) (v : V), vs = [.ref a, v] ∧ RblD v H ∧ OexC K C ∧ PySem.W.findIn K (.ref C) "what" = some none ∧ H a = some (exo a C none) ∧
  ∀ d, H d = none → d ≠ a → Q .non (upd (upd H d (exd d [("what", v)])) a (exo a C (some d)))
structure ExkD (P : Program) (w : World) (K : PySem.W.Frag) (mg : Str → Option Value) (base : Heap) (x : Str) (C : Addr) : Prop where
  oex : OexC K C
  wh : PySem.W.findIn K (.ref C) "what" = some none
  mgx : mg x = some (.ref C)
  xf : XfC K C
  ini : ∃ f fd, PySem.W.findIn K (.ref C) "__init__" = some (some (.ref f)) ∧ PySem.W.typeIn K (.ref f) = some (.type "function") ∧ Binds K fd ["self", "what"] [] ∧ FnOk P w K mg base CX0 2 f fd ["self", "what"] (spRD K)
def tRsD (K : PySem.W.Frag) (C : Addr) (W : WX) (te : TE) : TS := fun _ σ H => tMkO C (spRD K) [] (tCons te tNil) σ H fun cls d H' => W cls d σ H'
theorem ps_raiseD {X : Cx} {W : WX} {C : Addr} {x : Str} {e : Expr} {te : TE} {p pos pos' : Pos} (E : ExkD X.prog X.w X.K X.mg X.base x C) (hc : X.calm = true) (tk : Takes X W) (hr : Room 3 X.A) (hg : Gl X x) (he : PE X e te) (hdb : (x == ("__debug__" : Str)) = false := by decide)
    (hst : starEach [e] X.env = (false, eval e X.env) :: starEach [] X.env := by rfl) (hpl : (backTo pos (starEach [] X.env)).any (·.1) = false := by rfl) : PS X (.Raise (some (.Call (.Name x p) [e] [] pos)) none pos') (tRsD X.K C W te) := by
  obtain ⟨f, fd, i1, i2, b, F⟩ := E.ini
  exact ps_raise hc tk (pmk_oex E.oex i1 i2 F hr b .nil pass0 hg E.mgx (pa_cons he pa_nil hst) hdb hst hpl)
theorem rd_rsD {σ : L2.St} {H : Hp} {K : PySem.W.Frag} {D : Ends} {C : Addr} {W : WX} {te : TE} (h : te σ H fun v H1 => [v].length ≤ 1000 ∧ ∀ a, H1 a = none → spRD K (.ref a :: ([v] ++ [])) (upd H1 a (exo a C none))
  (fun u H2 => u = .non ∧ ∃ (d : Addr) (fs : List (Str × V)), H2 a = some (exo a C (some d)) ∧ H2 d = some (exd d fs) ∧ H1 d = none ∧ W (.ref C) (some d) σ (upd (del H2 a) d (.xd fs))) (fun _ _ _ => False)) : tRsD K C W te D σ H := h
theorem rd_mkD {K : PySem.W.Frag} {H : Hp} {C : Addr} {v : V} {R : Option Addr → Hp → Prop} (T : OexC K C) (hw : PySem.W.findIn K (.ref C) "what" = some none) (hv : RblD v H) (q : ∀ d, H d = none → R (some d) (upd H d (.xd [("what", v)]))) :
    [v].length ≤ 1000 ∧ ∀ a, H a = none → spRD K (.ref a :: ([v] ++ [])) (upd H a (exo a C none)) (fun u H2 => u = .non ∧ ∃ (d : Addr) (fs : List (Str × V)), H2 a = some (exo a C (some d)) ∧ H2 d = some (exd d fs) ∧ H d = none ∧ R (some d) (upd (del H2 a) d (.xd fs))) (fun _ _ _ => False) := by
  refine ⟨by show 1 ≤ 1000; decide, fun a ha => ⟨a, C, v, rfl, hv.same (same_upd ha), T, hw, upd_same, fun d hd ne => ⟨rfl, d, _, upd_same, by rw [upd_ne ne, upd_same], ?_, ?_⟩⟩⟩
  · rw [upd_ne ne] at hd
    exact hd
  · have hd' : H d = none := by rw [upd_ne ne] at hd; exact hd
    have e : upd (del (upd (upd (upd H a (exo a C none)) d (exd d [("what", v)])) a (exo a C (some d))) a) d (.xd [("what", v)]) = upd H d (.xd [("what", v)]) := by
      funext b
      by_cases h1 : b = d
      · rw [h1, upd_same, upd_same]
      · rw [upd_ne h1, upd_ne h1]
        by_cases h2 : b = a
        · rw [h2, del_same, ha]
        · rw [del_ne h2, upd_ne h2, upd_ne h1, upd_ne h2]
    rw [e]
    exact q d hd'
theorem form_small {op l : Str} (h : formOf op = some l) : (∀ c ∈ op.cps.toList, c < 16 ^ 8) ∧ op.length ≤ 10 ∧ l.cps.size ≤ 3 := by
  have hm := form_mem h
  simp only [rowForms, List.mem_cons, List.mem_nil_iff, or_false, Prod.mk.injEq] at hm
  rcases hm with ⟨rfl, rfl⟩ | ⟨rfl, rfl⟩ | ⟨rfl, rfl⟩ | ⟨rfl, rfl⟩ | ⟨rfl, rfl⟩ | ⟨rfl, rfl⟩ | ⟨rfl, rfl⟩ | ⟨rfl, rfl⟩ | ⟨rfl, rfl⟩ | ⟨rfl, rfl⟩ | ⟨rfl, rfl⟩ | ⟨rfl, rfl⟩ <;> exact ⟨by decide +kernel, by decide +kernel, by decide +kernel⟩
/-- a drawn row in the heap -/
theorem RblD.of {H : Hp} {v : V} {r : Rw} (h : Rp H v r.d) (hf : RwForm r) (hb : ∀ n ∈ r.ns, n.natAbs.log2 < 1920) : RblD v H := by
  obtain ⟨op, ns⟩ := r
  obtain ⟨p, vs, rfl, hp, ha⟩ := h.tup_inv
  obtain ⟨y0, yr, rfl, z0, ha1⟩ := ha.cons_inv
  have e0 := z0.str_inv; subst e0
  have e1 := RpAll.ints_inv (ns := ns) ha1; subst e1
  obtain ⟨l, hl, hs⟩ := hf
  obtain ⟨a1, a2, a3⟩ := form_small hl
  have hs' : l.cps.size = ns.length := hs
  exact ⟨p, op, ns, rfl, hp, a1, a2, by omega, hb⟩
/-! ### a caught error that lives on as an object -/
def erO (a : Addr) (cls : Value) (d : Option Addr) : HO := .ext fun h => ∃ oe : Obj, h.get? a = some oe ∧ Zc cls d oe ∧ ∃ fv, oe.data = .fields fv
def wRg (K : PySem.W.Frag) (c : Value) (i : Nat) (t₀ : TS) (tr : TS) (D : Ends) : WX := fun cls d σ H =>
  PySem.W.exmOne K cls c = some true ∧ ∀ a, H a = none → t₀ { nx := fun σ' H' => tr D (σ'.set i none) (upd H' a (erO a cls d)), rt := fun _ _ => False, bk := fun _ _ => False, ct := fun _ _ => False } (σ.set i (some (.ref a))) H
section
variable {X : Cx} {pins : List (Addr × Obj)} {σ : L2.St} {H : Hp} {s : Shared}
theorem inv_reg {a : Addr} {oe : Obj} {cls : Value} {d : Option Addr} (J : L2.Inv (pinX X ((a, oe) :: (X.pn ++ pins))) [] σ H s) (ok : X.Ok) (hz : Zc cls d oe) (hf : ∃ fv, oe.data = .fields fv)
    (fr : ∀ o, X.s_0.heap.get? a = some o → a ∉ X.ex → False) (np : ∀ p ∈ X.pn ++ pins, p.1 ≠ a) : L2.Inv X pins σ (upd H a (erO a cls d)) s := by
  have P := pin_inv J ok
  obtain ⟨g, na, nL, nF, nc⟩ := J.pin (a, oe) (List.mem_append_left _ List.mem_cons_self)
  obtain ⟨fv, hd⟩ := hf
  exact
  { ok := ok
    os := P.os
    bare := P.bare
    base := 
    { keep := P.base.keep
      slot := P.base.slot
      free := fun b o e h1 h2 => by
        have hb : b ≠ a := fun hb => fr o (hb ▸ e) (hb ▸ h2)
        rw [upd_ne hb]
        exact P.base.free b o e h1 h2
      there := P.base.there
      tups := fun b xs e => by
        have q := P.base.tups b xs e
        rw [upd_ne (fun hb => by rw [hb, na] at q; cases q)]
        exact q
      frzs := fun b o u e => by
        have q := P.base.frzs b o u e
        rw [upd_ne (fun hb => by rw [hb, na] at q; cases q)]
        exact q
      tbls := fun b ps e => by
        obtain ⟨more, q⟩ := P.base.tbls b ps e
        exact ⟨more, by rw [upd_ne (fun hb => by rw [hb, na] at q; cases q)]; exact q⟩ }
    loc := P.loc
    cell := P.cell
    free := by rw [upd_ne (Ne.symm nL)]; exact P.free
    freeC := fun x c e => by
      rw [upd_ne (fun hb => ?_)]
      · exact P.freeC x c e
      · obtain ⟨v, hv⟩ := P.cell x c e
        rw [hb] at hv
        obtain ⟨o, ho, hdo⟩ : ∃ o, s.heap.get? a = some o ∧ o.data = .cell v := hv
        rw [show s.heap.get? a = some oe from g] at ho
        cases ho
        exact nc v hdo
    pin := fun p hp => by
      obtain ⟨p1, p2, p3⟩ := P.pin p hp
      exact ⟨p1, by rw [upd_ne (np p hp)]; exact p2, p3⟩
    hok := L2.HOk.laidN P.hok (fun _ _ e => e) na ⟨⟨oe, g, hz, fv, hd⟩, ⟨oe, g⟩, fun h1 h2 ⟨o, e, r⟩ k => ⟨o, k o e, r⟩⟩
    len := P.len }
end
section
variable {X : Cx} {x n : Str} {c : Value} {i : Nat} {body rest : List Stmt} {b₀ : Stmt} {np pos pos' : Pos} {tb : WX → TS} {tr t₀ : TS}
theorem pss_try_reg (hs : X.stack = X.env :: X.outer) (hf : X.env.frame = some X.env.locals) (hN : X.N.Nodup) (hi : X.N[i]? = some n) (hln : X.env.kindOf n = some .local) (hc : Names X x c)
    (hb : ∀ (W : WX) (pn : List (Addr × Obj)) (xe : Value → Shared → Prop), Takes (X.tr pn xe) W → PassesOwn (model X.prog X.w) X.A X.env xe → PSs (X.tr pn xe) body (tb W))
    (h0 : PSs X rest tr) (h1 : ∀ (a : Addr) (pn : List (Addr × Obj)), PSs (X.suite a pn) [b₀] t₀) :
    PSs X (.Try body [.ExceptHandler (some (.Name x np)) (some n) [b₀] pos'] [] [] pos :: rest) (fun D σ H => tb (wRg X.K c i t₀ tr D) { D with nx := tr D } σ H) := by
  refine ⟨fun pins s σ H D I h => wpAny_execs_cons (wpAny_Try_except ?_)⟩
  have ok := I.ok
  have frm : X.A.frames = some (X.env :: X.outer) := hs ▸ ok.frames
  refine wpAny_mono ((hb (wRg X.K c i t₀ tr D) (X.pn ++ pins) _ (fun u z ev => ?_) PassesOwn.looking).run [] s σ H { D with nx := tr D } (I.toTry _) h) (fun fl z hz => ?_) (fun _ _ he => he)
  case refine_2 =>
    cases fl with
    | next =>
      obtain ⟨σ1, H1, J, r⟩ := hz
      exact wpAny_execs_nil (h0.run pins z σ1 H1 D (J.ofTry ok) r)
    | brk => exact let ⟨σ1, H1, J, r⟩ := hz; ⟨σ1, H1, J.ofTry ok, r⟩
    | cont => exact let ⟨σ1, H1, J, r⟩ := hz; ⟨σ1, H1, J.ofTry ok, r⟩
    | ret u => exact let ⟨v, σ1, H1, J, r1, r⟩ := hz; ⟨v, σ1, H1, J.ofTry ok, r1, r⟩
  obtain ⟨a, B, sB, _, σ1, H1, cls, d, rfl, J0, q1, q2, q3, na, q5, q6, exm, go⟩ := ev
  have J : L2.Inv X pins σ1 H1 sB := J0.ofTry ok
  show wpAny (model X.prog X.w) X.A (noteFrame (.ref a) X.env) _ _ _
  refine Sky.land Zc.steady frm hf (hs ▸ q3) fun hA fA uA => ?_
  have JA : L2.Inv X pins σ1 H1 { z with heap := hA } := J.landed q1 fA.1 (q2.trans uA) q5 q6
  obtain ⟨oA, vA, gA, zA, dA⟩ := fA.there
  have nofr : a ∉ frs (X.env :: X.outer) := fun hm => by
    obtain ⟨_, o', e', nf⟩ := fA.2.2.1.mem hm
    cases gA.symm.trans e'
    exact nf vA dA
  have nL : a ≠ X.env.locals := fun e => nofr (List.mem_filterMap.mpr ⟨X.env, List.mem_cons_self, e ▸ hf⟩)
  have nF : a ∉ X.fs := fun hm => let ⟨e, he, q⟩ := List.mem_filterMap.mp hm; nofr (List.mem_filterMap.mpr ⟨e, List.mem_cons_of_mem _ he, q⟩)
  have nB : ∀ o, sB.heap.get? a = some o → False := fun o e => by
    have h1 := q1 a o e (by rw [show (X.tr (X.pn ++ pins) _).stack = X.env :: X.outer from hs]; exact nofr)
    rw [fA.2.1] at h1
    cases h1
  have fr : ∀ o, X.s_0.heap.get? a = some o → a ∉ X.ex → False := fun o e h2 => by
    obtain ⟨o', e'⟩ := J.base.there a o e h2
    exact nB o' e'
  have npn : ∀ p ∈ X.pn ++ pins, p.1 ≠ a := fun p hp e => nB p.2 (e ▸ (J.pin p hp).1)
  have SA := JA.suite gA dA na nL nF
  refine wpAny_handleBy_cons (codeAny_handlers_test ?_) (fun q => nomatch q)
  have lk : PySem.W.Looks (model X.prog X.w) hA (typeOf (.ref a)) cls := fun A0 Q0 E0' s0 k0 q0 => wpAny_typeOf_ref (k0 a oA gA) (zA.1 ▸ q0)
  have lm := PySem.W.exm_one (M := model X.prog X.w) JA.kIn lk exm
  have named : ∀ {Q0 E0' : Value → Shared → Prop}, Q0 c { z with heap := hA } → wpAny (model X.prog X.w) (X.A.mark (some (.ref a))) (eval (.Name x np) X.env) Q0 E0' { z with heap := hA } := fun {Q0 E0'} q0 => by
    obtain ⟨g1, g2, g3 | ⟨g3, g4, g5⟩⟩ := hc
    · exact ld_glob (X := X.suite a ((a, oA) :: (X.pn ++ pins))) SA g1 g3 q0 g2
    · exact ld_blt (X := X.suite a ((a, oA) :: (X.pn ++ pins))) SA g1 g3 g4 q0 g5 g2
  refine named (lm.here (codeAny_handlers_suite_as (HandSPX.lands_againZ fA fun hC fC uC => ?_)))
  have JC : L2.Inv X pins σ1 H1 { z with heap := hC } := J.landed q1 fC.1 ((q2.trans uA).trans uC) q5 q6
  obtain ⟨oC, vC, gC, zC, dC⟩ := fC.there
  refine store_ok (X := X.suite a ((a, oC) :: (X.pn ++ pins))) (v := .ref a) (JC.suite gC dC na nL nF) hN hi (.inl hln) rfl (fun sD SD => ?_) (.inr hln)
  refine wpAny_mono ((h1 a ((a, oC) :: (X.pn ++ pins))).run [] sD _ H1 _ SD (go a na)) (fun fl sE he => ?_) (fun _ _ q => False.elim q)
  cases fl with
  | next =>
    obtain ⟨σ2, H2, S2, r2⟩ := he
    have P2 := inv_pin S2 ok
    exact gone_ok (X := pinX X ((a, oC) :: (X.pn ++ pins))) P2 hN hi hln fun sF PF => h0.run pins sF _ _ D (inv_reg PF ok zC ⟨vC, dC⟩ fr npn) r2
  | brk => exact let ⟨_, _, _, q⟩ := he; False.elim q
  | cont => exact let ⟨_, _, _, q⟩ := he; False.elim q
  | ret u => exact let ⟨_, _, _, _, _, q⟩ := he; False.elim q
end
theorem inst_er {X : Cx} {pins : List (Addr × Obj)} {σ : L2.St} {H : Hp} {s : Shared} {a D dd : Addr} {fs : List (Str × V)} (I : L2.Inv X pins σ H s) (ha : H a = some (erO a (.ref D) (some dd))) (hx : H dd = some (.xd fs)) : ∃ oe od, PySem.W.InstAt s.heap a oe D (some od) ∧ oe.dict = some dd := by
  obtain ⟨⟨oe, g, hz, fv, hv⟩, _, _⟩ := (show ObjOk X.prog X.w H s.heap a (erO a (.ref D) (some dd)) from I.hok a _ ha)
  obtain ⟨mA, ⟨o, _, _, e, _⟩, _⟩ := (show ObjOk X.prog X.w H s.heap dd (.xd fs) from I.hok dd _ hx)
  obtain ⟨oc, od, oda, osl⟩ := oe
  obtain ⟨h1, h2⟩ := hz
  dsimp only at h1 h2 hv
  subst h1 h2 hv
  exact ⟨_, o, ⟨g, rfl, rfl, e⟩, rfl⟩
def rIsE (K : PySem.W.Frag) : List V → Hp → VK → Prop := fun xs H Q => ∃ (a : Addr) (c : V) (D dd : Addr) (fs : List (Str × V)) (cv : Value) (b : Bool), xs = [.ref a, c] ∧ H a = some (erO a (.ref D) (some dd)) ∧ H dd = some (.xd fs) ∧ ExI K D ∧ ClsV c cv ∧ PySem.W.kitOne K (.ref D) cv = some b ∧ Q (.bl b) H
def rIsET (K : PySem.W.Frag) : List V → Hp → VK → Prop := fun xs H Q => ∃ (a tp D dd : Addr) (cs : List V) (ws : List Value) (fs : List (Str × V)) (b : Bool), xs = [.ref a, .ref tp] ∧ H a = some (erO a (.ref D) (some dd)) ∧ H dd = some (.xd fs) ∧ ExI K D ∧ H tp = some (.tup cs) ∧ Paired ClsV cs ws ∧ PySem.W.kitAny K (.ref D) ws = some b ∧ Q (.bl b) H
theorem cre_isX {X : Cx} {K : PySem.W.Frag} (hK : X.K = K := by rfl) : CallR X (.builtin "isinstance") (rIsE K) := by
  subst hK
  intro pins s σ H xs us Q I r h
  obtain ⟨a, c, D, dd, fs, cv, b, rfl, ha, hx, E, k, e, q⟩ := h
  obtain ⟨u1, u2, rfl, r1, r2⟩ := vals2 r
  cases r1
  cases k.eq r2
  obtain ⟨oe, od, J, _⟩ := inst_er I ha hx
  exact PySem.W.kia_one (PySem.W.kitx_exc E.cl E.xf.ga E.xf.gg E.xf.exC E.ha E.hn E.ht E.hm) I.kIn J e (fun z => nomatch z) fun tk => ⟨.bl b, H, I.tok tk, rfl, q⟩
theorem cre_isXT {X : Cx} {K : PySem.W.Frag} (hK : X.K = K := by rfl) : CallR X (.builtin "isinstance") (rIsET K) := by
  subst hK
  intro pins s σ H xs us Q I r h
  obtain ⟨a, tp, D, dd, cs, ws, fs, b, rfl, ha, hx, E, hT, k, e, q⟩ := h
  obtain ⟨u1, u2, rfl, r1, r2⟩ := vals2 r
  cases r1
  cases (show u2 = Value.ref tp from r2)
  obtain ⟨oe, od, J, _⟩ := inst_er I ha hx
  obtain ⟨_, its, rv, o, h1, h2, n, h3⟩ := (show ObjOk X.prog X.w H s.heap tp (.tup cs) from I.hok tp _ hT)
  have e3 := ClsV.all k rv
  subst e3
  obtain ⟨oc, od', dt, sl⟩ := o
  simp only at h2 h3
  subst h2 h3
  exact PySem.W.kia_tup (PySem.W.kitx_exc E.cl E.xf.ga E.xf.gg E.xf.exC E.ha E.hn E.ht E.hm) I.kIn J h1 e (fun z => nomatch z) fun tk => ⟨.bl b, H, I.tok tk, rfl, q⟩
def tXfE (C : Addr) (f : Str) (te : TE) : TE := fun σ H Q => te σ H fun x H1 => ∃ (a dd : Addr) (fs : List (Str × V)) (v : V), x = .ref a ∧ H1 a = some (erO a (.ref C) (some dd)) ∧ H1 dd = some (.xd fs) ∧ fs.lookup f = some v ∧ Q v H1
theorem pee_xf {X : Cx} {C : Addr} {e : Expr} {te : TE} {pos : Pos} {n : Str} (T : XfC X.K C) (hno : PySem.W.findIn X.K (.ref C) n = some none) (he : PE X e te) (hb : attributeBase e n X.env (eval e X.env) = eval e X.env := by rfl) :
    PE X (.Attribute e n pos) (tXfE C n te) := by
  refine ⟨fun pins s σ H Q I h => attr_of hb (thn (he.run pins s σ H _ I h) fun u z hh => ?_)⟩
  obtain ⟨y, H1, I1, ry, a, dd, fs, v, ey, hx, ea, lv, q⟩ := hh
  subst ey
  obtain rfl : u = Value.ref a := ry
  obtain ⟨oe, od, J, hd⟩ := inst_er I1 hx ea
  obtain ⟨mA, ns, rl⟩ := (show ObjOk X.prog X.w H1 z.heap dd (.xd fs) from I1.hok dd _ ea)
  obtain ⟨od, ho, look⟩ := lookIn_ns ns
  obtain ⟨w, hw, rw'⟩ := RelO.some_of (v := v) (o := mA n) (lv ▸ rl n)
  have J' : PySem.W.InstAt z.heap a oe C (some od) := by
    obtain ⟨j1, j2, j3, j4⟩ := J
    exact ⟨j1, j2, j3, hd ▸ ho⟩
  exact HandSPX.exc_get I1.kIn J' T.ga T.gg T.exC (PySem.W.findObj_own T.hdC hno rfl (by rw [look, hw])) (handed_of rw') ⟨v, H1, I1.tok _, rw', q⟩
section
variable {X : Cx} {CX : CXT} {k : Nat} {f : Addr} {fd : FuncData} {ps : List Str} {sp : Sp} {E : L2.St → XK} {x : Str} {p pos : Pos} {e : Expr} {es : List Expr} {t : TA} {ds : List Value} {dvs : List V}
/-- a call in a try, with what is left out -/
def tCallSd (sp : Sp) (dvs : List V) (E : L2.St → XK) (t : TA) : TE := fun σ H Q => t σ H fun vs H1 => sp (vs ++ dvs) H1 Q (E σ)
theorem pe_callSd (F : FnOk X.prog X.w X.K X.mg X.base CX k f fd ps sp) (hr : Room k X.A) (hg : Gl X x) (hm : X.mg x = some (.ref f)) (hk : PySem.W.keepIn X.K (.ref f) = true) (hb : Binds X.K fd ps ds) (hd : Vals dvs ds) (hx : ∀ σ, PassesAt CX X σ (E σ))
    (ha : PA X (e :: es) t) (hdb : (x == ("__debug__" : Str)) = false := by decide) (he : starEach (e :: es) X.env = (false, eval e X.env) :: starEach es X.env := by rfl) (hpl : (backTo pos (starEach es X.env)).any (·.1) = false := by rfl) :
    PE X (.Call (.Name x p) (e :: es) [] pos) (tCallSd sp dvs E t) := by
  refine ⟨fun pins s σ H Q I h => ?_⟩
  refine wpAny_Call_Name_kw (ld_glob I hg hm ?_ hdb)
  refine PySem.W.callWith_K (h₀ := X.base) I.ok.mod.kin hk (thn (ha.run pos pins s σ H _ I h) fun us s1 ⟨vs, H1, I1, r, q⟩ => ⟨I1.kIn, ?_⟩) he hpl
  have r2 : Vals (vs ++ dvs) (us ++ ds) := r.append hd
  have hl : (us ++ ds).length = ps.length := by rw [← r2.length]; exact F.len _ _ _ _ q
  refine wpAny_call (codeAny_mono (F.run X.A X.stack s1 H1 ⟨us, []⟩ (us ++ ds) (vs ++ dvs) Q (E σ) hr I1.env0 (hb s1 us I1.kIn hl) r2 q) fun r s' hq => ?_)
  cases r with
  | error e => exact hx σ pins H1 s1 e s' I1 hq
  | ok fl =>
    cases fl with
    | ret u => exact I1.after hq
    | next => exact False.elim hq
    | brk => exact False.elim hq
    | cont => exact False.elim hq
theorem rd_callSd {σ : L2.St} {H : Hp} {Q : VK} (h : t σ H fun vs H1 => sp (vs ++ dvs) H1 Q (E σ)) : tCallSd sp dvs E t σ H Q := h
end
end Rg

/-! dicts with keys that are tuples of tuples (KE's nestedKind), for the hand layer -/
namespace Rg
open PySem PySem.Spec PyProof.Rows L2
mutual
/-- data of numbers, texts, None and tuples of such in the heap is a key -/
theorem nk_is {P : Program} {w : World} {H : Hp} {h : Heap} (ok : HOk P w H h) : ∀ (k : NestedKey) {v : V} {u : Value}, Rp H v k.data → RelV v u → NestedIs h k u
  | .none, v, u, r, e => by
    have r' : Rp H v PyData.none := r
    cases r'
    obtain rfl : u = Value.none := e
    exact .none
  | .num i, v, u, r, e => by
    have r' : Rp H v (PyData.int i) := r
    cases r'
    obtain ⟨t, rfl⟩ := e
    exact .int i t
  | .text x, v, u, r, e => by
    have r' : Rp H v (PyData.str x) := r
    cases r'
    obtain ⟨t, rfl⟩ := e
    exact .text x t
  | .tup ks, v, u, r, e => by
    have r' : Rp H v (PyData.tuple (NestedKey.datas ks)) := r
    obtain ⟨p, xs, rfl, hp, ha⟩ := r'.tup_inv
    obtain rfl : u = Value.ref p := e
    obtain ⟨_, its, rv, o, h1, h2, n, h3⟩ := (show ObjOk P w H h p (.tup xs) from ok p _ hp)
    exact .tup h1 h2 h3 (nk_all ok ks ha rv)
theorem nk_all {P : Program} {w : World} {H : Hp} {h : Heap} (ok : HOk P w H h) : ∀ (ks : List NestedKey) {vs : List V} {us : List Value}, RpAll H vs (NestedKey.datas ks) → Vals vs us → NestedAll h ks us
  | [], vs, us, r, e => by
    have r' : RpAll H vs [] := r
    cases r'
    cases e
    exact .nil
  | k :: ks, vs, us, r, e => by
    have r' : RpAll H vs (k.data :: NestedKey.datas ks) := r
    cases r' with
    | cons r1 r2 =>
      cases e with
      | cons e1 e2 => exact .cons (nk_is ok k r1 e1) (nk_all ok ks r2 e2)
end
/-- an entry: the key, where its tuple stands, the value -/
abbrev NE := NestedKey × Addr × V
def REnt (x : NE) (y : NestedKey × Addr × Value) : Prop := x.1 = y.1 ∧ x.2.1 = y.2.1 ∧ RelV x.2.2 y.2.2
def dN (P : Program) (w : World) (a : Addr) (xs : List NE) : HO := .ext fun h => (a == sysModules) = false ∧ xs.length ≤ sizeLine ∧ ∃ ys : List (NestedKey × Addr × Value), Paired REnt xs ys ∧ ∃ o es ep, h.get? a = some o ∧ o.ExactDict ∧ o.data = .dict es ep ∧ es.toList = ys.map (entryOfKey (nestedKind P w)) ∧ (ys.map (·.1)).Nodup
def KeysN (H : Hp) (xs : List NE) : Prop := ∀ x ∈ xs, Rp H (.ref x.2.1) x.1.data ∧ x.1.depth ≤ 8
theorem KeysN.keep {H H' : Hp} {xs : List NE} (h : KeysN H xs) (k : Tk H H') : KeysN H' xs := fun x hx => ⟨(h x hx).1.keep k, (h x hx).2⟩
theorem KeysN.snoc {H : Hp} {xs : List NE} {k : NestedKey} {q : Addr} {v : V} (h : KeysN H xs) (r : Rp H (.ref q) k.data) (hd : k.depth ≤ 8) : KeysN H (xs ++ [(k, q, v)]) := fun x hx => by
  rcases List.mem_append.mp hx with h' | h'
  · exact h x h'
  · rw [List.mem_singleton.mp h']
    exact ⟨r, hd⟩
def valN (xs : List NE) (k : NestedKey) : Option V := (xs.find? fun x => decide (x.1 = k)).map (·.2.2)
theorem at_N {k : NestedKey} : ∀ {xs : List NE} {ys : List (NestedKey × Addr × Value)}, Paired REnt xs ys → (∃ v p, valN xs k = some v ∧ atKey ys k = some p ∧ RelV v p.2) ∨ (valN xs k = none ∧ atKey ys k = none)
  | _, _, .nil => .inr ⟨rfl, rfl⟩
  | _, _, @Paired.cons _ _ _ x y xs ys r t => by
    by_cases h : x.1 = k
    · have hy : y.1 = k := r.1 ▸ h
      refine .inl ⟨x.2.2, y.2, ?_, ?_, r.2.2⟩
      · unfold valN
        simp [h]
      · unfold atKey
        simp [hy]
    · have hy : ¬ y.1 = k := fun e => h (r.1.trans e)
      have e1 : valN (x :: xs) k = valN xs k := by
        unfold valN
        simp [h]
      have e2 : atKey (y :: ys) k = atKey ys k := by
        unfold atKey
        simp [hy]
      rw [e1, e2]
      exact at_N t
theorem isSome_N {k : NestedKey} {xs : List NE} {ys : List (NestedKey × Addr × Value)} (h : Paired REnt xs ys) : (atKey ys k).isSome = (valN xs k).isSome := by
  rcases at_N (k := k) h with ⟨v, p, e1, e2, _⟩ | ⟨e1, e2⟩
  · rw [e1, e2]; rfl
  · simp [e1, e2]
theorem keys_is {P : Program} {w : World} {H : Hp} {h : Heap} (ok : HOk P w H h) : ∀ {xs : List NE} {ys : List (NestedKey × Addr × Value)}, Paired REnt xs ys → KeysN H xs → ∀ y ∈ ys, (nestedKind P w).is h y.1 y.2.1
  | _, _, .nil, _ => fun y hy => nomatch hy
  | _, _, @Paired.cons _ _ _ x y xs ys r t, ks => fun z hz => by
    rcases List.mem_cons.mp hz with rfl | hz
    · obtain ⟨k1, k2⟩ := ks x List.mem_cons_self
      refine ⟨?_, by rw [← r.1]; exact k2⟩
      rw [← r.1, ← r.2.1]
      exact nk_is ok _ k1 rfl
    · exact keys_is ok t (fun q hq => ks q (List.mem_cons_of_mem _ hq)) z hz
theorem dn_of {P : Program} {w : World} {H : Hp} {h : Heap} {a : Addr} {xs : List NE} (ok : HOk P w H h) (e : H a = some (dN P w a xs)) (ks : KeysN H xs) : (a == sysModules) = false ∧ xs.length ≤ sizeLine ∧ ∃ ys, Paired REnt xs ys ∧ h.DictOfH (nestedKind P w) a ys := by
  obtain ⟨⟨h1, h2, ys, h3, o, es, ep, g1, g2, g3, g4, g5⟩, _, _⟩ := (show ObjOk P w H h a (dN P w a xs) from ok a _ e)
  exact ⟨h1, h2, ys, h3, o, es, ep, g1, g2, g3, g4, keys_is ok h3 ks, g5⟩
theorem dn_ok {P : Program} {w : World} {H : Hp} {h : Heap} {a : Addr} {xs : List NE} {ys : List (NestedKey × Addr × Value)} (h1 : (a == sysModules) = false) (h2 : xs.length ≤ sizeLine) (h3 : Paired REnt xs ys) (d : h.DictOfH (nestedKind P w) a ys) : ObjOk P w H h a (dN P w a xs) := by
  obtain ⟨o, es, ep, g1, g2, g3, g4, _, g5⟩ := d
  refine ⟨⟨h1, h2, ys, h3, o, es, ep, g1, g2, g3, g4, g5⟩, ⟨o, g1⟩, ?_⟩
  rintro ha hb ⟨k1, k2, zs, k3, o', es', ep', f1, f2, f3, f4, f5⟩ keep
  exact ⟨k1, k2, zs, k3, o', es', ep', keep _ f1, f2, f3, f4, f5⟩
section
variable {X : Cx}
/-- k in d -/
def rInN (P : Program) (w : World) : R2 := fun x y H Q => ∃ (q a : Addr) (k : NestedKey) (xs : List NE), x = .ref q ∧ y = .ref a ∧ H a = some (dN P w a xs) ∧ KeysN H xs ∧ Rp H (.ref q) k.data ∧ k.depth ≤ 8 ∧ Q (.bl (valN xs k).isSome) H
def rNotInN (P : Program) (w : World) : R2 := fun x y H Q => ∃ (q a : Addr) (k : NestedKey) (xs : List NE), x = .ref q ∧ y = .ref a ∧ H a = some (dN P w a xs) ∧ KeysN H xs ∧ Rp H (.ref q) k.data ∧ k.depth ≤ 8 ∧ Q (.bl (!(valN xs k).isSome)) H
theorem room8 {A : Around} (hu : A.units + 64 < cLine) {P : Program} {w : World} : (nestedKind P w).room A.in1 := by
  show A.in1.units + 8 < cLine
  rw [Around.in1_units]
  omega
theorem op_inN (hu : X.A.units + 64 < cLine) {P : Program} {w : World} (h1 : X.prog = P := by rfl) (h2 : X.w = w := by rfl) : OpR X (compareOp .In) (rInN P w) := by
  subst h1 h2
  intro pins s σ H x y v u Q I rx ry h
  obtain ⟨q, a, k, xs, rfl, rfl, e, ks, rk, dk, hq⟩ := h
  obtain rfl : v = Value.ref q := rx
  obtain rfl : u = Value.ref a := ry
  obtain ⟨hd, _, ys, pr, dd⟩ := dn_of I.hok e ks
  refine wpAny_in_heap (room8 hu) (⟨nk_is I.hok k rk rfl, dk⟩ : (nestedKind X.prog X.w).is s.heap k q) hd dd ?_
  rw [isSome_N pr]
  exact ⟨.bl _, H, I.tok _, rfl, hq⟩
theorem op_notInN (hu : X.A.units + 64 < cLine) {P : Program} {w : World} (h1 : X.prog = P := by rfl) (h2 : X.w = w := by rfl) : OpR X (compareOp .NotIn) (rNotInN P w) := by
  subst h1 h2
  intro pins s σ H x y v u Q I rx ry h
  obtain ⟨q, a, k, xs, rfl, rfl, e, ks, rk, dk, hq⟩ := h
  obtain rfl : v = Value.ref q := rx
  obtain rfl : u = Value.ref a := ry
  obtain ⟨hd, _, ys, pr, dd⟩ := dn_of I.hok e ks
  refine wpAny_notIn_heap (room8 hu) (⟨nk_is I.hok k rk rfl, dk⟩ : (nestedKind X.prog X.w).is s.heap k q) hd dd ?_
  rw [isSome_N pr]
  exact ⟨.bl _, H, I.tok _, rfl, hq⟩
/-- d[k], there -/
def rIxN (P : Program) (w : World) : R2 := fun x y H Q => ∃ (q a : Addr) (k : NestedKey) (xs : List NE) (v : V), x = .ref a ∧ y = .ref q ∧ H a = some (dN P w a xs) ∧ KeysN H xs ∧ Rp H (.ref q) k.data ∧ k.depth ≤ 8 ∧ valN xs k = some v ∧ Q v H
theorem ix_dN (hu : X.A.units + 64 < cLine) {P : Program} {w : World} (h1 : X.prog = P := by rfl) (h2 : X.w = w := by rfl) : IxR X (rIxN P w) := by
  subst h1 h2
  intro value slice pins s σ H x y v u Q I rx ry h hs
  obtain ⟨q, a, k, xs, z, rfl, rfl, e, ks, rk, dk, hv, hq⟩ := h
  obtain rfl : v = Value.ref a := rx
  obtain rfl : u = Value.ref q := ry
  obtain ⟨hd, _, ys, pr, dd⟩ := dn_of I.hok e ks
  rcases at_N (k := k) pr with ⟨v', p, e1, e2, rv⟩ | ⟨e1, _⟩
  · rw [hv] at e1
    cases e1
    exact tail_any dd.typeIs slot_dict_getitem.lookup (wpAny_getItem_heap (room8 hu) (⟨nk_is I.hok k rk rfl, dk⟩ : (nestedKind X.prog X.w).is s.heap k q) dd e2 ⟨z, H, I.tok _, rv, hq⟩) hs
  · rw [hv] at e1
    cases e1
/-- d[k] = v, a new key -/
def rSetN (P : Program) (w : World) : TSet := fun o i v H Q => ∃ (q a : Addr) (k : NestedKey) (xs : List NE), o = .ref a ∧ i = .ref q ∧ H a = some (dN P w a xs) ∧ KeysN H xs ∧ Rp H (.ref q) k.data ∧ k.depth ≤ 8 ∧ valN xs k = none ∧ xs.length ≤ 1000 ∧ Q (upd H a (dN P w a (xs ++ [(k, q, v)])))
theorem set_dN (hu : X.A.units + 64 < cLine) {P : Program} {w : World} (h1 : X.prog = P := by rfl) (h2 : X.w = w := by rfl) : PSet X (rSetN P w) := by
  subst h1 h2
  intro pins s σ H o i v ov iv u Q I ro ri rv h
  obtain ⟨q, a, k, xs, rfl, rfl, e, ks, rk, dk, hv, hl, hq⟩ := h
  obtain rfl : ov = Value.ref a := ro
  obtain rfl : iv = Value.ref q := ri
  obtain ⟨hd, hz, ys, pr, dd⟩ := dn_of I.hok e ks
  have e2 : atKey ys k = none := by
    rcases at_N (k := k) pr with ⟨v', p, e1, _, _⟩ | ⟨_, e2⟩
    · rw [hv] at e1
      cases e1
    · exact e2
  refine wpAny_setItem_heap (hsz := by rw [← Paired.length pr]; exact hz) (room8 hu) (⟨nk_is I.hok k rk rfl, dk⟩ : (nestedKind X.prog X.w).is s.heap k q) dd fun h' dd' hs => ?_
  have he : ∃ z, h'.get? a = some z := let ⟨z, _, _, hz, _⟩ := dd'; ⟨z, hz⟩
  rw [storedH_new e2] at dd'
  refine ⟨_, d_write I (by rw [e]; exact True.intro) hs he (dn_ok hd ?_ (Paired.snoc pr ⟨rfl, rfl, rv⟩) dd'), hq⟩
  rw [List.length_append, sizeLine_eq]
  show xs.length + 1 ≤ _
  omega
/-- {k: v} -/
def tDispN (P : Program) (w : World) (tk tv : TE) : TE := fun σ H Q => ∀ p, H p = none → tk σ (upd H p (dN P w p [])) fun x H1 => tv σ H1 fun y H2 => ∃ (q : Addr) (k : NestedKey), x = .ref q ∧ H2 p = some (dN P w p []) ∧ Rp H2 (.ref q) k.data ∧ k.depth ≤ 8 ∧ Q (.ref p) (upd H2 p (dN P w p [(k, q, y)]))
theorem pe_dispN {pos : Pos} {e1 e2 : Expr} {tk tv : TE} (hu : X.A.units + 64 < cLine) (he1 : PE X e1 tk) (he2 : PE X e2 tv) {P : Program} {w : World} (h1 : X.prog = P := by rfl) (h2 : X.w = w := by rfl) : PE X (.Dict [some e1] [e2] pos) (tDispN P w tk tv) := by
  subst h1 h2
  refine ⟨fun pins s σ H Q I q => ?_⟩
  have hn := I.hok.fresh (Nat.le_refl s.heap.objs.size)
  have I1 := I.laid (a := s.heap.objs.size) (o := dN X.prog X.w s.heap.objs.size []) (h' := s.heap.push { cls := .type "dict", data := .dict #[] }) (t' := s.toks) (fun _ _ q => Heap.get?_push_of_some _ q) (Nat.le_refl _)
    (dn_ok (beq_eq_false_iff_ne.mpr (Ne.symm (Nat.ne_of_lt I.big))) (Nat.zero_le _) .nil (Heap.DictOfH.new s.heap))
  have one : wpAny (model X.prog X.w) X.A (evalPairs (pairTrees [some e1] [e2] X.env pos)) (fun vs s2 => ∃ ps, CarriesH (nestedKind X.prog X.w) s2.heap vs ps ∧ s2.heap.DictOfH (nestedKind X.prog X.w) s.heap.objs.size [] ∧
      ∀ h' tk, h'.DictOfH (nestedKind X.prog X.w) s.heap.objs.size (storedAllH [] ps) → Heap.SameBut s.heap.objs.size s2.heap h' → EP X pins σ Q (.ref s.heap.objs.size) { s2 with heap := h', toks := tk }) X.xe { s with heap := s.heap.push { cls := .type "dict", data := .dict #[] } } := by
    refine pairTrees_cons_walk (thn (he1.run pins _ σ _ _ I1 (q _ hn)) fun u s1 ⟨x, H1, I1, rx, q1⟩ => thn (he2.run pins s1 σ H1 _ I1 q1) fun w2 s2 ⟨y, H2, I2, ry, q2⟩ => pairTrees_nil_walk ?_)
    obtain ⟨r, k, rfl, e, rk, dk, q3⟩ := q2
    obtain rfl : u = Value.ref r := rx
    obtain ⟨hd, _, ys, pr, dd⟩ := dn_of I2.hok e (fun z hz => nomatch hz)
    cases pr
    refine ⟨[(k, r, w2)], ⟨rfl, rfl, ⟨nk_is I2.hok k rk rfl, dk⟩, trivial⟩, dd, fun h' tk' dd' hs => ⟨.ref s.heap.objs.size, _, ?_, rfl, q3⟩⟩
    have he : ∃ z, h'.get? s.heap.objs.size = some z := let ⟨z, _, _, hz, _⟩ := dd'; ⟨z, hz⟩
    exact d_write I2 (by rw [e]; exact True.intro) hs he (dn_ok hd (by show 1 ≤ sizeLine; decide) (.cons ⟨rfl, rfl, ry⟩ .nil) dd')
  have hz := zip_pairTrees [some e1] [e2] X.env pos rfl rfl
  have hp : pairTrees [some e1] [e2] X.env pos ≠ [] := fun z => nomatch (congrArg List.length z)
  rw [arm_eval_Dict, hz, dictDisplay_pairs _ hp (by show 1 < 17; decide)]
  refine wpAny_bind (wpAny_standAt (wpAny_bind (wpAny_subDictH (knd := nestedKind X.prog X.w) (by show X.A.units + 8 < cLine; omega) (by show 1 ≤ 15; decide) (thn one fun vs s2 z => ?_))))
  obtain ⟨ps, c, dd, k⟩ := z
  exact ⟨ps, c, dd, fun h' tk a b => wpAny_pure (k h' tk a b)⟩
end
/-! ### stands as keys -/
mutual
theorem nk_eqv : ∀ (a b : NestedKey), PyData.eqv a.data b.data = NestedKey.beq a b
  | .none, .none => rfl
  | .num i, .num j => by
    show (i == j) = decide (i = j)
    by_cases h : i = j <;> simp [h]
  | .text x, .text y => by
    show (x == y) = decide (x = y)
    by_cases h : x = y <;> simp [h]
  | .tup xs, .tup ys => nk_eqvs xs ys
  | .none, .num _ | .none, .text _ | .none, .tup _ => rfl
  | .num _, .none | .num _, .text _ | .num _, .tup _ => rfl
  | .text _, .none | .text _, .num _ | .text _, .tup _ => rfl
  | .tup _, .none | .tup _, .num _ | .tup _, .text _ => rfl
theorem nk_eqvs : ∀ (a b : List NestedKey), PyData.eqvAll (NestedKey.datas a) (NestedKey.datas b) = NestedKey.beqAll a b
  | [], [] => rfl
  | x :: xs, y :: ys => by
    show (PyData.eqv x.data y.data && PyData.eqvAll (NestedKey.datas xs) (NestedKey.datas ys)) = (NestedKey.beq x y && NestedKey.beqAll xs ys)
    rw [nk_eqv x y, nk_eqvs xs ys]
  | [], _ :: _ => rfl
  | _ :: _, [] => rfl
end
theorem datas_map {α : Type} (f : α → NestedKey) (g : α → PyData) (h : ∀ x, (f x).data = g x) : ∀ l : List α, NestedKey.datas (l.map f) = l.map g
  | [] => rfl
  | x :: l => by
    show (f x).data :: NestedKey.datas (l.map f) = g x :: l.map g
    rw [h x, datas_map f g h l]
theorem depths_map {α : Type} (f : α → NestedKey) (n : Nat) (h : ∀ x, (f x).depth ≤ n) : ∀ l : List α, NestedKey.depthAll (l.map f) ≤ n
  | [] => Nat.zero_le _
  | x :: l => by
    have h1 := h x
    have h2 := depths_map f n h l
    show max (f x).depth (NestedKey.depthAll (l.map f)) ≤ n
    omega
def wdK : Wd → NestedKey
  | .num n => .tup [.text "num", .num n]
  | .ptr r s p => .tup [.text "ptr", .num r, .num s, .num p]
def ptK : Pt → NestedKey
  | none => .none
  | some (r, s, p) => .tup [.num r, .num s, .num p]
def wsK (ws : List Wd) : NestedKey := .tup (ws.map wdK)
def Sd.k (s : Sd) : NestedKey := .tup [.num s.ring, .num s.a, .tup (s.pt.map ptK), .tup (s.me.map wsK)]
theorem wdK_d : ∀ x : Wd, (wdK x).data = x.d
  | .num _ => rfl
  | .ptr _ _ _ => rfl
theorem ptK_d : ∀ x : Pt, (ptK x).data = ptD x
  | none => rfl
  | some (_, _, _) => rfl
theorem wsK_d (ws : List Wd) : (wsK ws).data = .tuple (ws.map Wd.d) := congrArg PyData.tuple (datas_map wdK Wd.d wdK_d ws)
theorem Sd.k_d (s : Sd) : s.k.data = s.d := by
  show PyData.tuple [.int s.ring, .int s.a, .tuple (NestedKey.datas (s.pt.map ptK)), .tuple (NestedKey.datas (s.me.map wsK))] = s.d
  rw [datas_map ptK ptD ptK_d, datas_map wsK _ wsK_d]
  rfl
theorem Sd.k_depth (s : Sd) : s.k.depth ≤ 8 := by
  have h1 : ∀ x, (wdK x).depth ≤ 1 := fun x => by cases x <;> exact (by decide : (1 : Nat) ≤ 1)
  have h2 : ∀ x, (ptK x).depth ≤ 1 := fun x => by
    match x with
    | none => exact Nat.zero_le _
    | some (_, _, _) => exact Nat.le_refl _
  have h3 : ∀ x, (wsK x).depth ≤ 2 := fun x => Nat.succ_le_succ (depths_map wdK 1 h1 x)
  have a := depths_map ptK 1 h2 s.pt
  have b := depths_map wsK 2 h3 s.me
  show max 0 (max 0 (max (NestedKey.depthAll (s.pt.map ptK) + 1) (max (NestedKey.depthAll (s.me.map wsK) + 1) 0))) + 1 ≤ 8
  omega
theorem wdK_inj : ∀ {x y : Wd}, wdK x = wdK y → x = y
  | .num _, .num _, h => by cases h; rfl
  | .ptr _ _ _, .ptr _ _ _, h => by cases h; rfl
  | .num _, .ptr _ _ _, h => by simp [wdK] at h
  | .ptr _ _ _, .num _, h => by simp [wdK] at h
theorem ptK_inj : ∀ {x y : Pt}, ptK x = ptK y → x = y
  | none, none, _ => rfl
  | some (_, _, _), some (_, _, _), h => by cases h; rfl
  | none, some (_, _, _), h => by simp [ptK] at h
  | some (_, _, _), none, h => by simp [ptK] at h
theorem map_inj {α β : Type} {f : α → β} (h : ∀ {x y}, f x = f y → x = y) : ∀ {a b : List α}, a.map f = b.map f → a = b
  | [], [], _ => rfl
  | x :: a, y :: b, e => by
    rw [List.map_cons, List.map_cons] at e
    injection e with e1 e2
    rw [h e1, map_inj h e2]
  | [], _ :: _, e => by simp at e
  | _ :: _, [], e => by simp at e
theorem Sd.k_inj {s t : Sd} (h : s.k = t.k) : s = t := by
  obtain ⟨r, a, p, m⟩ := s
  obtain ⟨r', a', p', m'⟩ := t
  unfold Sd.k at h
  simp only [NestedKey.tup.injEq, List.cons.injEq, NestedKey.num.injEq, and_true] at h
  obtain ⟨h1, h2, h3, h4⟩ := h
  have e3 := map_inj ptK_inj h3
  have e4 := map_inj (f := wsK) (fun {x y} e => map_inj wdK_inj (by unfold wsK at e; injection e)) h4
  rw [h1, h2, e3, e4]
theorem Sd.eqv (s t : Sd) : PyData.eqv s.d t.d = decide (s.k = t.k) := by
  rw [← s.k_d, ← t.k_d, nk_eqv, NestedKey.decide_eq]
/-! ### what is found one from another: the fields of a Finds -/
def fF (v0 v1 v2 v3 : V) : List (Str × V) := [("limit", v0), ("things", v1), ("ways", v2), ("taken", v3)]
theorem fF_limit {v0 v1 v2 v3 : V} : (fF v0 v1 v2 v3).lookup ("limit" : Str) = some v0 := by unfold fF; rw [lookup_put, if_pos rfl]
theorem fF_things {v0 v1 v2 v3 : V} : (fF v0 v1 v2 v3).lookup ("things" : Str) = some v1 := by unfold fF; rw [lookup_put, if_neg (by decide +kernel)]; rw [lookup_put, if_pos rfl]
theorem fF_ways {v0 v1 v2 v3 : V} : (fF v0 v1 v2 v3).lookup ("ways" : Str) = some v2 := by unfold fF; rw [lookup_put, if_neg (by decide +kernel)]; rw [lookup_put, if_neg (by decide +kernel)]; rw [lookup_put, if_pos rfl]
theorem fF_taken {v0 v1 v2 v3 : V} : (fF v0 v1 v2 v3).lookup ("taken" : Str) = some v3 := by unfold fF; rw [lookup_put, if_neg (by decide +kernel)]; rw [lookup_put, if_neg (by decide +kernel)]; rw [lookup_put, if_neg (by decide +kernel)]; rw [lookup_put, if_pos rfl]
theorem putf_taken {v0 v1 v2 v3 y : V} : putF "taken" y (fF v0 v1 v2 v3) = fF v0 v1 v2 y := by unfold fF putF; rw [if_neg (by decide +kernel)]; unfold putF; rw [if_neg (by decide +kernel)]; unfold putF; rw [if_neg (by decide +kernel)]; unfold putF; rw [if_pos rfl]
theorem putg_limit {v0 : V} : putF ("limit" : Str) v0 ([] : List (Str × V)) = ([("limit", v0)] : List (Str × V)) := by rfl
theorem putg_things {v0 v1 : V} : putF ("things" : Str) v1 ([("limit", v0)] : List (Str × V)) = ([("limit", v0), ("things", v1)] : List (Str × V)) := by unfold putF; rw [if_neg (by decide +kernel)]; rfl
theorem putg_ways {v0 v1 v2 : V} : putF ("ways" : Str) v2 ([("limit", v0), ("things", v1)] : List (Str × V)) = ([("limit", v0), ("things", v1), ("ways", v2)] : List (Str × V)) := by unfold putF; rw [if_neg (by decide +kernel)]; unfold putF; rw [if_neg (by decide +kernel)]; rfl
theorem putg_taken {v0 v1 v2 v3 : V} : putF ("taken" : Str) v3 ([("limit", v0), ("things", v1), ("ways", v2)] : List (Str × V)) = ([("limit", v0), ("things", v1), ("ways", v2), ("taken", v3)] : List (Str × V)) := by unfold putF; rw [if_neg (by decide +kernel)]; unfold putF; rw [if_neg (by decide +kernel)]; unfold putF; rw [if_neg (by decide +kernel)]; rfl
structure FiC (K : PySem.W.Frag) (mg : Str → Option Value) (C : Addr) : Prop where
  cl : Cls K C
  n_limit : NoAttr K C "limit"
  n_things : NoAttr K C "things"
  n_ways : NoAttr K C "ways"
  n_taken : NoAttr K C "taken"
  mgC : mg "Finds" = some (.ref C)
structure Th where
  k : NestedKey
  q : Addr
  wl : Addr
  ns : List Int
def Th.e (t : Th) : NE := (t.k, t.q, .ref t.wl)
/-- a Finds stands at x: its things and ways, and how many were taken -/
structure FAt (P : Program) (w : World) (C : Addr) (H0 H : Hp) (x : Addr) (lim : Int) (ts : List Th) (tk : Nat) : Prop where
  ex : ∃ dx ls D, H x = some (.ins C dx (fF (.int lim) (.ref ls) (.ref D) (.int tk))) ∧ H ls = some (.lst (ts.map fun t => V.ref t.q)) ∧ H D = some (dN P w D (ts.map Th.e)) ∧ H0 x = none ∧ H0 ls = none ∧ H0 D = none ∧
    ∀ t ∈ ts, H t.wl = some (.lst (t.ns.map V.int)) ∧ H0 t.wl = none ∧ t.wl ≠ ls
  ks : ∀ t ∈ ts, Rp H (.ref t.q) t.k.data ∧ t.k.depth ≤ 8
  sm : Same H0 H
  nd : (ts.map Th.k).Nodup
theorem FAt.keys {P : Program} {w : World} {C : Addr} {H0 H : Hp} {x : Addr} {lim : Int} {ts : List Th} {tk : Nat} (F : FAt P w C H0 H x lim ts tk) : KeysN H (ts.map Th.e) := fun z hz => by
  obtain ⟨t, ht, rfl⟩ := List.mem_map.mp hz
  exact F.ks t ht
theorem FAt.same {P : Program} {w : World} {C : Addr} {H0 H H' : Hp} {x : Addr} {lim : Int} {ts : List Th} {tk : Nat} (F : FAt P w C H0 H x lim ts tk) (s : Same H H') : FAt P w C H0 H' x lim ts tk := by
  obtain ⟨⟨dx, ls, D, h1, h2, h3, n1, n2, n3, h4⟩, h5, h6, h7⟩ := F
  exact ⟨⟨dx, ls, D, s _ _ h1, s _ _ h2, s _ _ h3, n1, n2, n3, fun t ht => ⟨s _ _ (h4 t ht).1, (h4 t ht).2⟩⟩, fun t ht => ⟨(h5 t ht).1.keep (Tk.of s), (h5 t ht).2⟩, h6.trans s, h7⟩
theorem find_N {k : NestedKey} : ∀ (ts : List Th), valN (ts.map Th.e) k = (ts.find? fun t => decide (t.k = k)).map fun t => V.ref t.wl
  | [] => rfl
  | t :: ts => by
    have ih := find_N (k := k) ts
    unfold valN at ih ⊢
    by_cases h : t.k = k
    · simp [Th.e, h]
    · simpa [Th.e, h] using ih
theorem some_N {k : NestedKey} {ts : List Th} : (valN (ts.map Th.e) k).isSome = decide (k ∈ ts.map Th.k) := by
  rw [find_N, Option.isSome_map]
  cases e : ts.find? fun t => decide (t.k = k) with
  | some t =>
    have h1 := List.find?_some e
    have h2 := List.mem_of_find?_eq_some e
    exact (decide_eq_true (List.mem_map.mpr ⟨t, h2, of_decide_eq_true h1⟩)).symm
  | none =>
    refine (decide_eq_false fun h => ?_).symm
    obtain ⟨t, h2, h3⟩ := List.mem_map.mp h
    have := List.find?_eq_none.mp e t h2
    rw [decide_eq_true h3] at this
    exact this rfl
theorem at_nd : ∀ {ts : List Th} {i : Nat} {t : Th}, (ts.map Th.k).Nodup → ts[i]? = some t → valN (ts.map Th.e) t.k = some (.ref t.wl)
  | [], _, _, _, h => by simp at h
  | y :: ts, i, t, nd, h => by
    rw [find_N]
    cases i with
    | zero =>
      cases h
      simp
    | succ i =>
      rw [List.getElem?_cons_succ] at h
      rw [List.map_cons, List.nodup_cons] at nd
      have hm : t.k ∈ ts.map Th.k := List.mem_map.mpr ⟨t, List.mem_of_getElem? h, rfl⟩
      have hn : ¬ y.k = t.k := fun e => nd.1 (e ▸ hm)
      have ih := at_nd nd.2 h
      rw [find_N] at ih
      rw [List.find?_cons_of_neg (by simpa using hn)]
      exact ih
/-! ### methods that let a refusal out -/
structure MthR (P : Program) (w : World) (K : PySem.W.Frag) (mg : Str → Option Value) (base : Heap) (C : Addr) (m : Str) (k : Nat) (ps : List Str) (sp : Sp) : Prop where
  ex : ∃ (f : Addr) (fd : FuncData), Meth K C m f ∧ Binds K fd ps [] ∧ FnOk P w K mg base (L2.CX P w) k f fd ps sp
theorem pe_mthR {X : Cx} {C : Addr} {k : Nat} {ps : List Str} {sp : Sp} {m : Str} {pos apos : Pos} {e o : Expr} {es : List Expr} {t : TA} {ta : TE} {E : XK} {pl : Sem Bool} (M : MthR X.prog X.w X.K X.mg X.base C m k ps sp) (c : Cls X.K C) (hr : Room k X.A) (tk : Takes X (fun cls d _ H => E cls d H)) (he : PE X o ta) (ha : PA X (e :: es) t)
    (hst : starEach (e :: es) X.env = (false, eval e X.env) :: starEach es X.env := by rfl) (hpl : (backTo pos (starEach es X.env)).any (·.1) = false := by rfl)
    (ht : eval (.Call (.Attribute o m apos) (e :: es) [] pos) X.env = (do
      let ov ← eval o X.env
      standAt apos.atName
      let (f, first) ← holding [ov] (getMethod ov m pl)
      callWith pos f first (backTo pos (starEach (e :: es) X.env)) (backToKw pos (keywordEach [] X.env))) := by rfl) :
    PE X (.Call (.Attribute o m apos) (e :: es) [] pos) (tMeth C m sp [] E ta t) := by
  obtain ⟨f, fd, hm, hb, F⟩ := M.ex
  exact pe_meth he c hm F hr hb .nil (passes_call tk fun _ _ _ _ h => h) ha hst hpl ht
/-! ### calls with keywords in the body of a try -/
def tCallNS (n m : Nat) (sp : Sp) (gV : List V → List V → List V) (E : L2.St → XK) (t tk : TA) : TE := fun σ H Q => t σ H fun vs H1 => tk σ H1 fun zs H2 => vs.length = n ∧ zs.length = m ∧ sp (gV vs zs) H2 Q (E σ)
theorem rd_callNS {n m : Nat} {sp : Sp} {gV : List V → List V → List V} {E : L2.St → XK} {t tk : TA} {σ : L2.St} {H : Hp} {Q : VK} (h : t σ H fun vs H1 => tk σ H1 fun zs H2 => vs.length = n ∧ zs.length = m ∧ sp (gV vs zs) H2 Q (E σ)) : tCallNS n m sp gV E t tk σ H Q := h
section
variable {X : Cx} {CX : CXT} {k n : Nat} {f : Addr} {fd : FuncData} {ps ks : List Str} {sp : Sp} {E : L2.St → XK} {x : Str} {p pos : Pos} {e : Expr} {es : List Expr} {kws : List Keyword} {t tk : TA} {g : List Value → List Value → List Value} {gV : List V → List V → List V}
theorem run_fnNS {pins : List (Addr × Obj)} {σ : L2.St} {H : Hp} {s : Shared} {Q : VK} {us ws : List Value} {vs zs : List V} (F : FnOk X.prog X.w X.K X.mg X.base CX k f fd ps sp) (hr : Room k X.A) (hb : KBn X.K fd ps n ks g gV) (hx : PassesAt CX X σ (E σ)) (I : L2.Inv X pins σ H s) (r : Vals vs us) (rz : Vals zs ws)
    (l1 : vs.length = n) (l2 : zs.length = ks.length) (h : sp (gV vs zs) H Q (E σ)) : wpAny (model X.prog X.w) X.A (call (.ref f) us (ks.zip ws)) (EP X pins σ Q) X.xe s := by
  have to_ := hb.to s us ws I.kIn (r.length.symm.trans l1) (rz.length.symm.trans l2)
  refine wpAny_call (codeAny_mono (F.run X.A X.stack s H ⟨us, ks.zip ws⟩ (g us ws) (gV vs zs) Q (E σ) hr I.env0 to_ (hb.rel r rz) h) fun r1 s' hq => ?_)
  match r1, hq with
  | .error e, hq => exact hx pins H s e s' I hq
  | .ok (.ret u), hq => exact I.after hq
  | .ok .next, hq => exact hq.elim
  | .ok .brk, hq => exact hq.elim
  | .ok .cont, hq => exact hq.elim
theorem pe_callNS (F : FnOk X.prog X.w X.K X.mg X.base CX k f fd ps sp) (hr : Room k X.A) (hg : Gl X x) (hm : X.mg x = some (.ref f)) (hk : PySem.W.keepIn X.K (.ref f) = true) (hb : KBn X.K fd ps n ks g gV) (hx : ∀ σ, PassesAt CX X σ (E σ)) (ha : PA X (e :: es) t) (hkw : PK X kws tk)
    (hall : (backToKw pos (keywordEach kws X.env)).all (·.1.isSome) = true := by rfl) (hks : (backToKw pos (keywordEach kws X.env)).filterMap (·.1) = ks := by rfl) (hdb : (x == ("__debug__" : Str)) = false := by decide) (he : starEach (e :: es) X.env = (false, eval e X.env) :: starEach es X.env := by rfl)
    (hpl : ((backTo pos (starEach (e :: es) X.env)).any (·.1) || (backToKw pos (keywordEach kws X.env)).any (·.1.isNone)) = false := by rfl) : PE X (.Call (.Name x p) (e :: es) kws pos) (tCallNS n ks.length sp gV E t tk) := by
  refine ⟨fun pins s σ H Q I h => wpAny_Call_Name_kw (ld_glob I hg hm ?_ hdb)⟩
  refine PySem.W.callWith_KW (h₀ := X.base) I.ok.mod.kin hk hall (thn (ha.run pos pins s σ H _ I h) fun us s1 ⟨vs, H1, I1, r, q⟩ => thn (hkw.run pos pins s1 σ H1 _ I1 q) fun ws s2 ⟨zs, H2, I2, rz, l1, l2, q2⟩ => ⟨I2.kIn, ?_⟩) hpl he
  rw [hks]
  exact run_fnNS F hr hb (hx σ) I2 r rz l1 l2 q2
theorem pe_callNS0 (F : FnOk X.prog X.w X.K X.mg X.base CX k f fd ps sp) (hr : Room k X.A) (hg : Gl X x) (hm : X.mg x = some (.ref f)) (hk : PySem.W.keepIn X.K (.ref f) = true) (hb : KBn X.K fd ps 0 ks g gV) (hx : ∀ σ, PassesAt CX X σ (E σ)) (hkw : PK X kws tk)
    (hall : (backToKw pos (keywordEach kws X.env)).all (·.1.isSome) = true := by rfl) (hks : (backToKw pos (keywordEach kws X.env)).filterMap (·.1) = ks := by rfl) (hdb : (x == ("__debug__" : Str)) = false := by decide)
    (hpl : ((backTo pos (starEach [] X.env)).any (·.1) || (backToKw pos (keywordEach kws X.env)).any (·.1.isNone)) = false := by rfl) : PE X (.Call (.Name x p) [] kws pos) (tCallNS 0 ks.length sp gV E tNil tk) := by
  refine ⟨fun pins s σ H Q I h => wpAny_Call_Name_kw (ld_glob I hg hm ?_ hdb)⟩
  refine PySem.W.callWith_KW0 (h₀ := X.base) I.ok.mod.kin hk hall (thn (hkw.run pos pins s σ H _ I h) fun ws s2 ⟨zs, H2, I2, rz, l1, l2, q2⟩ => ⟨I2.kIn, ?_⟩) hpl
  rw [hks]
  exact run_fnNS (us := []) (vs := []) F hr hb (hx σ) I2 .nil rz l1 l2 q2
end
end Rg

/-! dicts keyed by nested tuples: laid by a comprehension, walked while they stand -/
namespace Rg
open PySem PySem.Spec PyProof.Rows L2
/-- a key laid: a new one comes last; one that is there keeps its own tuple and takes the value -/
def putN (xs : List NE) (k : NestedKey) (q : Addr) (v : V) : List NE := if (valN xs k).isSome then xs.map fun x => if x.1 = k then (x.1, x.2.1, v) else x else xs ++ [(k, q, v)]
theorem putN_new {xs : List NE} {k : NestedKey} {q : Addr} {v : V} (h : valN xs k = none) : putN xs k q v = xs ++ [(k, q, v)] := by
  unfold putN
  rw [h]
  rfl
theorem putN_old {xs : List NE} {k : NestedKey} {q : Addr} {v y : V} (h : valN xs k = some y) : putN xs k q v = xs.map fun x => if x.1 = k then (x.1, x.2.1, v) else x := by
  unfold putN
  rw [h]
  rfl
theorem putN_length (xs : List NE) (k : NestedKey) (q : Addr) (v : V) : (putN xs k q v).length ≤ xs.length + 1 := by
  unfold putN
  split <;> simp
theorem putN_keys {H : Hp} {xs : List NE} {k : NestedKey} {q : Addr} {v : V} (h : KeysN H xs) (r : Rp H (.ref q) k.data) (hd : k.depth ≤ 8) : KeysN H (putN xs k q v) := by
  unfold putN
  split
  · intro x hx
    obtain ⟨y, hy, rfl⟩ := List.mem_map.mp hx
    split
    · exact h y hy
    · exact h y hy
  · exact h.snoc r hd
theorem map_REnt {k : NestedKey} {v : V} {r : Value} (rv : RelV v r) : ∀ {xs : List NE} {ys : List (NestedKey × Addr × Value)}, Paired REnt xs ys → Paired REnt (xs.map fun x => if x.1 = k then (x.1, x.2.1, v) else x) (ys.map (putAt k r))
  | _, _, .nil => .nil
  | _, _, @Paired.cons _ _ _ x y xs ys h t => by
    refine .cons ?_ (map_REnt rv t)
    show REnt (if x.1 = k then (x.1, x.2.1, v) else x) (if y.1 = k then (y.1, y.2.1, r) else y)
    by_cases e : x.1 = k
    · rw [if_pos e, if_pos (h.1 ▸ e)]
      exact ⟨h.1, h.2.1, rv⟩
    · rw [if_neg e, if_neg (fun z => e (h.1.trans z))]
      exact h
theorem putN_rel {xs : List NE} {ys : List (NestedKey × Addr × Value)} {k : NestedKey} {q : Addr} {v : V} {r : Value} (pr : Paired REnt xs ys) (rv : RelV v r) : Paired REnt (putN xs k q v) (storedH ys k q r) := by
  rcases at_N (k := k) pr with ⟨y, p, e1, e2, _⟩ | ⟨e1, e2⟩
  · rw [putN_old e1, storedH_old e2]
    exact map_REnt rv pr
  · rw [putN_new e1, storedH_new e2]
    exact Paired.snoc pr ⟨rfl, rfl, rv⟩
section
variable {X : Cx}
theorem put_dN {pins : List (Addr × Obj)} {σ : L2.St} {H : Hp} {s : Shared} {E : Value → Shared → Prop} {a q : Addr} {k : NestedKey} {xs : List NE} {v : V} {r : Value} {Q : Unit → Shared → Prop} (hu : X.A.units + 64 < cLine) (I : L2.Inv X pins σ H s)
    (e : H a = some (dN X.prog X.w a xs)) (ks : KeysN H xs) (rk : Rp H (.ref q) k.data) (dk : k.depth ≤ 8) (hl : xs.length ≤ 1000) (rv : RelV v r)
    (h : ∀ s', L2.Inv X pins σ (upd H a (dN X.prog X.w a (putN xs k q v))) s' → Q () s') : wpAny (model X.prog X.w) X.A (dictSet a (.ref q) r) Q E s := by
  obtain ⟨hd, hz, ys, pr, dd⟩ := dn_of I.hok e ks
  refine wpAny_dictSet_heap (hsz := by rw [← Paired.length pr]; exact hz) (show (nestedKind X.prog X.w).room X.A by show X.A.units + 8 < cLine; omega) (⟨nk_is I.hok k rk rfl, dk⟩ : (nestedKind X.prog X.w).is s.heap k q) dd fun h' dd' hs => h _ ?_
  have he : ∃ z, h'.get? a = some z := let ⟨z, _, _, hz, _⟩ := dd'; ⟨z, hz⟩
  refine d_write I (by rw [e]; exact True.intro) hs he (dn_ok hd ?_ (putN_rel pr rv) dd')
  have := putN_length xs k q v
  rw [sizeLine_eq]
  omega
end
/-! ### locked, as it is while a loop walks it -/
section
variable {X : Cx}
theorem dnF_of {P : Program} {w : World} {H : Hp} {h : Heap} {a : Addr} {o : Obj} {xs : List NE} (ok : HOk P w H h) (e : H a = some (.frz o (dN P w a xs))) (ks : KeysN H xs) :
    (a == sysModules) = false ∧ h.get? a = some o ∧ o.ExactDict ∧ ∃ ys es ep, o.data = .dict es ep ∧ es.size = xs.length ∧ Paired REnt xs ys ∧ h.DictOfH (nestedKind P w) a ys ∧ ∀ i (hi : i < es.size), ∃ x, xs[i]? = some x ∧ es[i].key = .ref x.2.1 := by
  obtain ⟨e1, ⟨h1, h2, ys, h3, o', es, ep, g1, g2, g3, g4, g5⟩, _, _⟩ := (show ObjOk P w H h a (.frz o (dN P w a xs)) from ok a _ e)
  rw [e1] at g1
  cases g1
  have hl : es.size = ys.length := size_of_entries g4
  refine ⟨h1, e1, g2, ys, es, ep, g3, by rw [hl, ← Paired.length h3], h3, ⟨o, es, ep, e1, g2, g3, g4, keys_is ok h3 ks, g5⟩, fun i hi => ?_⟩
  have hx : i < xs.length := by rw [Paired.length h3, ← hl]; exact hi
  obtain ⟨b, hb, r⟩ := paired_get h3 (List.getElem?_eq_getElem hx)
  have q := entry_at g4 i
  rw [hb, Array.getElem?_eq_getElem hi, Option.map_some] at q
  refine ⟨xs[i], List.getElem?_eq_getElem hx, ?_⟩
  rw [Option.some.inj q]
  show Value.ref b.2.1 = _
  rw [r.2.1]
def rInNF (P : Program) (w : World) : R2 := fun x y H Q => ∃ (q a : Addr) (o : Obj) (k : NestedKey) (xs : List NE), x = .ref q ∧ y = .ref a ∧ H a = some (.frz o (dN P w a xs)) ∧ KeysN H xs ∧ Rp H (.ref q) k.data ∧ k.depth ≤ 8 ∧ Q (.bl (valN xs k).isSome) H
theorem op_inNF (hu : X.A.units + 64 < cLine) {P : Program} {w : World} (h1 : X.prog = P := by rfl) (h2 : X.w = w := by rfl) : OpR X (compareOp .In) (rInNF P w) := by
  subst h1 h2
  intro pins s σ H x y v u Q I rx ry h
  obtain ⟨q, a, o, k, xs, rfl, rfl, e, ks, rk, dk, hq⟩ := h
  obtain rfl : v = Value.ref q := rx
  obtain rfl : u = Value.ref a := ry
  obtain ⟨hd, _, _, ys, _, _, _, _, pr, dd, _⟩ := dnF_of I.hok e ks
  refine wpAny_in_heap (room8 hu) (⟨nk_is I.hok k rk rfl, dk⟩ : (nestedKind X.prog X.w).is s.heap k q) hd dd ?_
  rw [isSome_N pr]
  exact ⟨.bl _, H, I.tok _, rfl, hq⟩
end
/-- the keys, the dict as it stands under its lock -/
def Itn (P : Program) (w : World) (d : Addr) (o : Obj) (xs : List NE) : It :=
  ⟨fun i H => H d = some (.frz o (dN P w d xs)) ∧ KeysN H xs ∧ i < xs.length, fun i H x H' => H' = H ∧ ∃ e, xs[i]? = some e ∧ x = .ref e.2.1, fun i H => H d = some (.frz o (dN P w d xs)) ∧ KeysN H xs ∧ xs.length ≤ i⟩
theorem turn_keysN {P : Program} {w : World} {K : PySem.W.Frag} {tg : Expr} {d : Addr} {o : Obj} {es : Array DictEntry} {ep : Nat} {xs : List NE} (it : Addr) (hod : o.data = .dict es ep) : Turn P w K tg (Itn P w d o xs) [it] it (fun i h => h.IsKeyIter it d i xs.length ep) where
  mem := List.mem_singleton.mpr rfl
  obj := fun i h st b hb => by
    obtain rfl := List.mem_singleton.mp hb
    obtain ⟨oi, e, _, dd⟩ := st
    refine ⟨oi, e, fun v z => ?_⟩
    rw [dd] at z
    cases z
  keep := fun i h h' st k => st.at fun oi e => k it (List.mem_singleton.mpr rfl) oi e
  item := by
    intro X hP hw hK hc i pins s σ H E I hf st hg
    subst hP hw hK
    obtain ⟨hd, ks, hi⟩ := hg
    obtain ⟨f0, f1, f2, f3, f4, f5⟩ := hf it (List.mem_singleton.mpr rfl)
    obtain ⟨_, g1, g2, ys, es', ep', g3, hz, _, _, ent⟩ := dnF_of I.hok hd ks
    obtain ⟨rfl, rfl⟩ := dict_ep hod g3
    rw [← hz] at st hi
    obtain ⟨x, hx, hk⟩ := ent i hi
    refine wpAny_pyNext_keys_item_raw st ⟨o, g1, g2, g3⟩ hi fun h' st' sb => ?_
    obtain ⟨oi, e, c, dd⟩ := id st'
    rw [hz] at st'
    exact ⟨_, rfl, go_of (s := { s with heap := h' }) e c dd (by decide) ⟨.ref x.2.1, H, I.turned (t' := s.toks) (fun b ob hb e => (sb.2 b hb).trans e) f0 f1 f3 f4 f5, hk, ⟨rfl, x, hx, rfl⟩, st', fun b hb => (hf b hb).1⟩⟩
  done := by
    intro X hP hw hK hc i pins s σ H E I hf st hg
    subst hP hw hK
    obtain ⟨hd, ks, hi⟩ := hg
    obtain ⟨f0, f1, f2, f3, f4, f5⟩ := hf it (List.mem_singleton.mpr rfl)
    obtain ⟨_, g1, g2, ys, es', ep', g3, hz, _, _, _⟩ := dnF_of I.hok hd ks
    obtain ⟨rfl, rfl⟩ := dict_ep hod g3
    rw [← hz] at st hi
    exact wpAny_pyNext_keys_end_raw (I.ok.hd hc) st ⟨o, g1, g2, g3⟩ hi fun h' eb => ⟨rfl, I.turned (t' := s.toks) (fun b ob hb e => eb b ob hb e) f0 f1 f3 f4 f5⟩
  self := fun A i s Q E st h => wpAny_pyIter_keyiter st h
def iKeysN (P : Program) (w : World) (td : TE) : TI := fun σ H R => td σ H fun x H1 => ∃ d o xs, x = .ref d ∧ H1 d = some (.frz o (dN P w d xs)) ∧ KeysN H1 xs ∧ R (Itn P w d o xs) H1
theorem pi_keysN {X : Cx} {tg e : Expr} {td : TE} (he : PE X e td) {P : Program} {w : World} (h1 : X.prog = P := by rfl) (h2 : X.w = w := by rfl) : PI X tg e (iKeysN P w td) := by
  subst h1 h2
  refine ⟨fun pins s σ H R I h => thn (he.run pins s σ H _ I h) fun u s1 ⟨x, H1, I1, rx, d, o, xs, ex, hd, ks, q⟩ => ?_⟩
  subst ex
  obtain rfl : u = Value.ref d := rx
  obtain ⟨hs, g1, g2, ys, es, ep, g3, hz, _, _, _⟩ := dnF_of I1.hok hd ks
  refine wpAny_pyIter_dict_raw hs ⟨o, g1, g2, g3⟩ (pi_one (tk := s1.toks) I1 _ (turn_keysN _ g3) ⟨_, Heap.get?_push_size _ rfl, rfl, ?_⟩ q)
  rw [hz] <;> rfl
theorem walk_keysN {P : Program} {w : World} {d : Addr} {o : Obj} {xs : List NE} : Walk (Itn P w d o xs) xs.length (fun H => H d = some (.frz o (dN P w d xs)) ∧ KeysN H xs) (fun i H x H' => H' = H ∧ ∃ e, xs[i]? = some e ∧ x = .ref e.2.1) :=
  ⟨fun _ _ hi q => ⟨q.1, q.2, hi⟩, fun _ q => ⟨q.1, q.2, Nat.le_refl _⟩, fun _ _ _ _ _ _ y => y⟩
/-! ### {k: v for x in it}, keys nested tuples -/
section
variable {X : Cx}
/-- one turn's end: the key and its value go into the new dict at D -/
def LaysN (P : Program) (w : World) (D : Addr) (Nx : Hp → Prop) (y z : V) (H : Hp) : Prop := ∃ (q : Addr) (k : NestedKey) (xs : List NE), y = .ref q ∧ H D = some (dN P w D xs) ∧ KeysN H xs ∧ Rp H (.ref q) k.data ∧ k.depth ≤ 8 ∧ xs.length ≤ 1000 ∧ Nx (upd H D (dN P w D (putN xs k q z)))
def tDcN (P : Program) (w : World) (wi : TI) (g : TG) (tk tv : TE) (vs : List Nat) : TE := fun σ H Q => wi σ H fun J H1 => ∀ D, H1 D = none → ∃ W : Nat → Nat → Hp → Prop, (∃ m, W 0 m (upd H1 D (dN P w D []))) ∧ ∀ i m H, W i m H →
  (J.stop i H ∧ Q (.ref D) H) ∨ (J.go i H ∧ ∃ Nx : Hp → Prop, (∀ H', Nx H' → ∃ m', m' < m ∧ W (i + 1) m' H') ∧ ∀ x H', J.yld i H x H' → g x (wipe σ vs) H' fun σ2 H2 => wipe σ2 vs = wipe σ vs ∧ tk σ2 H2 fun y H3 => tv σ2 H3 fun z H4 => LaysN P w D Nx y z H4)
theorem pe_dcN {kx vx tg iter : Expr} {scope : Scope} {own : List (Str × Nat)} {pos : Pos} {wi : TI} {g : TG} {tk tv : TE} (hu : X.A.units + 64 < cLine) (hc : X.calm = true) (hN : X.N.Nodup) (hi : PI X tg iter wi) (ok : BlkOk X.N X.env.scope scope own)
    (hg : ∀ (s : Shared) (H : Hp) (C : Addr) (cl : List (Str × Addr)) (fp : List Addr), PG (X.blk s H scope (compEnvC scope cl C X.env) fp) tg g)
    (hk : ∀ (s : Shared) (H : Hp) (C : Addr) (cl : List (Str × Addr)) (fp : List Addr), PE (X.blk s H scope (compEnvC scope cl C X.env) fp) kx tk)
    (he : ∀ (s : Shared) (H : Hp) (C : Addr) (cl : List (Str × Addr)) (fp : List Addr), PE (X.blk s H scope (compEnvC scope cl C X.env) fp) vx tv) (hs : ∀ x, foldedSetIterable iter X.env x = pure x := by intro _; rfl)
    {P : Program} {w : World} (h1 : X.prog = P := by rfl) (h2 : X.w = w := by rfl) : PE X (.DictComp kx vx [⟨tg, iter, [], 0⟩] scope pos) (tDcN P w wi g tk tv (own.map (·.2))) := by
  subst h1 h2
  refine ⟨fun pins s σ H Q I h => ?_⟩
  rw [arm_eval_DictComp]
  have hfree : ∀ y ∈ scope.names, y.2 = .free → ∃ c, X.env.cells.lookup y.1 = some c := fun y hy e => I.ok.has _ ((ok.free y hy e).elim .inl .inr)
  refine wpAny_comprehension_free (use := none) rfl hs (closure_ok hfree) ok.kind (fun y hy e => by rw [ok.uniq y hy, e]) (thn (hi.run pins s σ H _ I h) fun _ s1 hx => thn hx fun _ s2 h2 => ?_)
  obtain ⟨it, fp, tn, J, H2, rfl, I2, T, st2, f2, q⟩ := h2
  refine wpAny_newObj_type (newEnv_comp ?_)
  generalize hD : s2.heap.objs.size = D
  have hDn : H2 D = none := I2.hok.fresh (Nat.le_of_eq hD)
  obtain ⟨W, ⟨m0, w0⟩, turn⟩ := q D hDn
  -- the new dict
  have lt2 : ∀ b ∈ fp, b < s2.heap.objs.size := fun b hb => let ⟨_, e, _⟩ := T.obj _ _ st2 b hb; Heap.lt_size e
  have I3 : L2.Inv X pins σ (upd H2 D (dN X.prog X.w D [])) ({ s2 with heap := s2.heap.push { cls := .type "dict", data := .dict #[] } } : Shared) := by
    subst hD
    exact I2.laid (t' := s2.toks) (fun _ _ e => Heap.get?_push_of_some _ e) (Nat.le_refl _) (dn_ok (beq_eq_false_iff_ne.mpr (Ne.symm (Nat.ne_of_lt I2.big))) (Nat.zero_le _) .nil (Heap.DictOfH.new s2.heap))
  have st3 : tn 0 (s2.heap.push { cls := .type "dict", data := .dict #[] }) := T.keep _ _ _ st2 fun _ _ _ e => Heap.get?_push_of_some _ e
  have f3 : ∀ b ∈ fp, FpOk X pins (upd H2 D (dN X.prog X.w D [])) b ∧ b < (s2.heap.push { cls := .type "dict", data := .dict #[] }).objs.size := fun b hb =>
    ⟨⟨by rw [upd_ne (hD ▸ Nat.ne_of_lt (lt2 b hb))]; exact (f2 b hb).1, (f2 b hb).2⟩, by rw [Heap.size_push]; exact Nat.lt_succ_of_lt (lt2 b hb)⟩
  clear hDn h
  generalize hs3 : ({ s2 with heap := s2.heap.push { cls := .type "dict", data := .dict #[] } } : Shared) = s3 at I3
  have e3 : s2.heap.push { cls := .type "dict", data := .dict #[] } = s3.heap := by rw [← hs3]
  rw [e3] at st3 f3
  generalize hH3 : upd H2 D (dN X.prog X.w D []) = H3 at I3 w0 f3
  have I4 := block_start I3 ok hN f3
  show codeAny _ _ (.compStart (.DictComp kx vx [⟨tg, iter, [], 0⟩] scope pos) 0 (.ref it) (.ref D) (compEnvC scope (cellsFrom (s3.heap.objs.size + 1) scope.names (cloFrom X.env.cells scope.names [])) s3.heap.objs.size X.env)) (compPost (model X.prog X.w) X.A X.xe none (EP X pins σ Q) (.ref D) s3.heap.objs.size) { s3 with heap := pushCells (s3.heap.push { cls := .type "dict", data := .dict #[] }) scope.names }
  have pg := hg s3 H3 s3.heap.objs.size (cellsFrom (s3.heap.objs.size + 1) scope.names (cloFrom X.env.cells scope.names [])) fp
  have pk := hk s3 H3 s3.heap.objs.size (cellsFrom (s3.heap.objs.size + 1) scope.names (cloFrom X.env.cells scope.names [])) fp
  have pv := he s3 H3 s3.heap.objs.size (cellsFrom (s3.heap.objs.size + 1) scope.names (cloFrom X.env.cells scope.names [])) fp
  generalize hce : compEnvC scope (cellsFrom (s3.heap.objs.size + 1) scope.names (cloFrom X.env.cells scope.names [])) s3.heap.objs.size X.env = ce at I4 pg pk pv ⊢
  have cL : ce.locals = s3.heap.objs.size := by rw [← hce]; rfl
  generalize hs4 : ({ s3 with heap := pushCells (s3.heap.push { cls := .type "dict", data := .dict #[] }) scope.names } : Shared) = s4 at I4 ⊢
  have st4 : tn 0 s4.heap := T.keep _ _ _ st3 fun _ _ _ e => by rw [← hs4]; exact pushCells_keeps _ _ _ _ (Heap.get?_push_of_some _ e)
  -- what the iterator's things keep in the block
  have own_ : ∀ {σ' : L2.St} {H' : Hp} {s' : Shared}, L2.Inv (X.blk s3 H3 scope ce fp) [] σ' H' s' → (∀ b ∈ fp, H' b = none) → ∀ b ∈ fp, FpOk (X.blk s3 H3 scope ce fp) [] H' b := fun {σ' H' s'} J' n b hb =>
    ⟨n b hb, (J'.ok.exf b hb).1, J'.ok.exfs b hb, .inl hb, (J'.ok.exf b hb).2, fun p hp => nomatch hp⟩
  refine (fun lp => codeAny_compStart_dict lp (T.self X.A 0 _ _ _ st4 lp)) (compLoop_anyD (fun n s' => ∃ i H', L2.Inv (X.blk s3 H3 scope ce fp) [] (wipe σ (own.map (·.2))) H' s' ∧ tn i s'.heap ∧ (∀ b ∈ fp, H' b = none) ∧ W i n H') ?_ m0 ⟨0, H3, I4, st4, fun b hb => (f3 b hb).1.1, w0⟩)
  rintro n s5 ⟨i, H5, I5, st5, n5, w5⟩
  rcases turn i n H5 w5 with ⟨stop, qq⟩ | ⟨go, Nx, hNx, step⟩
  · refine thnF (T.done (X.blk s3 H3 scope ce fp) rfl rfl rfl hc i [] s5 _ H5 (fun _ _ => False) I5 (own_ I5 n5) st5 stop) fun r s6 ⟨hr, I6⟩ => ?_
    subst hr
    have nC : H5 s3.heap.objs.size = none := cL ▸ (I6.free : H5 ce.locals = none)
    obtain ⟨m, hn, _⟩ := I6.loc
    refine ⟨m, (cL ▸ (hn : s6.heap.Ns ce.locals m) : s6.heap.Ns s3.heap.objs.size m), fun h'' sb => ?_⟩
    have I7 : L2.Inv X pins σ H5 s6 := I3.call' (ch := fp) I6.os I6.base I6.hok I6.bare fun b hb => ⟨(f3 b hb).1.2.2.2.1, (f3 b hb).1.2.1, (f3 b hb).1.2.2.2.2.1, (f3 b hb).1.2.2.2.2.2⟩
    obtain ⟨f0, f1, _, f3, f4, f5⟩ := I3.fpOk (Nat.le_refl _) nC
    exact ⟨.ref D, H5, I7.turned (t' := s6.toks) (fun b o hb e => (sb.2 b hb).trans e) f0 f1 f3 f4 f5, rfl, qq⟩
  · refine thnF (T.item (X.blk s3 H3 scope ce fp) rfl rfl rfl hc i [] s5 _ H5 (fun _ _ => False) I5 (own_ I5 n5) st5 go) fun r s6 ⟨u, hr, h6⟩ => ?_
    subst hr
    refine thnF h6 fun _ s7 ⟨x, H7, I7, r7, y7, st7, n7⟩ => ?_
    refine thnF (pg.run _ s7 _ H7 x u _ (I7.pinned (own_ I7 n7) (T.obj _ _ st7)) r7 (step x H7 y7)) fun _ s8 ⟨σ8, H8, I8, hw8, q8⟩ => ?_
    refine wpAny_pure ?_
    show wpAny _ _ (eval kx ce) _ _ s8
    refine thnF (pk.run _ s8 σ8 H8 _ I8 q8) fun z s9 ⟨y, H9, I9, r9, q9⟩ => ?_
    refine thnF (pv.run _ s9 σ8 H9 _ I9 q9) fun z2 s10 ⟨y2, H10, I10, r10, b, k, xs, ek, hD10, ks, rk, dk, hl, nx⟩ => ?_
    subst ek
    obtain rfl : z = Value.ref b := r9
    refine put_dN (X := X.blk s3 H3 scope ce fp) hu I10 hD10 ks rk dk hl r10 fun s11 I11 => ?_
    obtain ⟨m', hm, w'⟩ := hNx _ nx
    have pin' : ∀ b ∈ fp, ∀ o, s7.heap.get? b = some o → s11.heap.get? b = some o ∧ _ = none := fun b hb o e => let z := I11.pin (b, o) (List.mem_append_right _ (List.mem_append_right _ (mem_pinsAt hb e))); ⟨z.1, z.2.1⟩
    refine ⟨m', hm, i + 1, _, (I11.unpinned (pins := [])).weak (by rw [← hw8, wipe_length]) (fun j v e => ?_), T.keep _ _ _ st7 fun b hb o e => (pin' b hb o e).1, fun b hb => ?_, w'⟩
    · rw [← hw8] at e
      exact (wipe_some e).1
    · obtain ⟨o, e, _⟩ := T.obj _ _ st7 b hb
      exact (pin' b hb o e).2
end
theorem rd_dcN {P : Program} {w : World} {wi : TI} {g : TG} {tk tv : TE} {vs : List Nat} {σ : L2.St} {H : Hp} {Q : VK} (h : wi σ H fun J H1 => ∀ D, H1 D = none → ∃ W : Nat → Nat → Hp → Prop, (∃ m, W 0 m (upd H1 D (dN P w D []))) ∧ ∀ i m H, W i m H →
  (J.stop i H ∧ Q (.ref D) H) ∨ (J.go i H ∧ ∃ Nx : Hp → Prop, (∀ H', Nx H' → ∃ m', m' < m ∧ W (i + 1) m' H') ∧ ∀ x H', J.yld i H x H' → g x (wipe σ vs) H' fun σ2 H2 => wipe σ2 vs = wipe σ vs ∧ tk σ2 H2 fun y H3 => tv σ2 H3 fun z H4 => LaysN P w D Nx y z H4)) : tDcN P w wi g tk tv vs σ H Q := h
theorem dcN_it {P : Program} {w : World} {J : It} {n : Nat} {G : Hp → Prop} {Y : Nat → Hp → V → Hp → Prop} (wk : Walk J n G Y) {g : TG} {tk tv : TE} {vs : List Nat} {σ : L2.St} {H1 : Hp} {D : Addr} {Qd : Hp → Prop} (Pv : Nat → Hp → Prop) (h0 : Pv 0 (upd H1 D (dN P w D []))) (hG : ∀ i H, i ≤ n → Pv i H → G H)
    (hs : ∀ i x H H', i < n → Pv i H → Y i H x H' → g x (wipe σ vs) H' fun σ2 H2 => wipe σ2 vs = wipe σ vs ∧ tk σ2 H2 fun y H3 => tv σ2 H3 fun z H4 => LaysN P w D (Pv (i + 1)) y z H4) (hd : ∀ H, Pv n H → Qd H) :
    ∃ W : Nat → Nat → Hp → Prop, (∃ m, W 0 m (upd H1 D (dN P w D []))) ∧ ∀ i m H, W i m H →
      (J.stop i H ∧ Qd H) ∨ (J.go i H ∧ ∃ Nx : Hp → Prop, (∀ H', Nx H' → ∃ m', m' < m ∧ W (i + 1) m' H') ∧ ∀ x H', J.yld i H x H' → g x (wipe σ vs) H' fun σ2 H2 => wipe σ2 vs = wipe σ vs ∧ tk σ2 H2 fun y H3 => tv σ2 H3 fun z H4 => LaysN P w D Nx y z H4) := by
  refine ⟨fun i m H => m + i = n ∧ Pv i H, ⟨n, rfl, h0⟩, fun i m H h => ?_⟩
  obtain ⟨e, p⟩ := h
  have q := hG i H (by omega) p
  cases m with
  | zero =>
    obtain rfl : i = n := by omega
    exact .inl ⟨wk.stops H q, hd H p⟩
  | succ m => exact .inr ⟨wk.goes i H (by omega) q, Pv (i + 1), fun H' p' => ⟨m, Nat.lt_succ_self m, by omega, p'⟩, fun x H' y => hs i x H H' (by omega) p (wk.yields i H x H' (by omega) q y)⟩
theorem mem_putN {xs : List NE} {k k' : NestedKey} {q : Addr} {v : V} (hk : (valN xs k).isSome = decide (k ∈ xs.map (·.1))) : k' ∈ (putN xs k q v).map (·.1) ↔ k' ∈ xs.map (·.1) ∨ k' = k := by
  unfold putN
  split
  · rename_i h
    have e : (xs.map fun x => if x.1 = k then (x.1, x.2.1, v) else x).map (·.1) = xs.map (·.1) := by
      rw [List.map_map]
      refine List.map_congr_left fun x _ => ?_
      show (if x.1 = k then (x.1, x.2.1, v) else x).1 = x.1
      split <;> rfl
    rw [e]
    refine ⟨.inl, fun z => z.elim id fun z => ?_⟩
    rw [z]
    exact of_decide_eq_true (hk ▸ h)
  · rw [List.map_append, List.mem_append]
    exact or_congr Iff.rfl List.mem_singleton
theorem isSome_mem {k : NestedKey} : ∀ {xs : List NE}, (valN xs k).isSome = decide (k ∈ xs.map (·.1))
  | [] => rfl
  | x :: xs => by
    have ih := isSome_mem (k := k) (xs := xs)
    unfold valN at ih ⊢
    rw [List.map_cons]
    by_cases h : x.1 = k
    · rw [List.find?_cons_of_pos (by simpa using h)]
      exact (decide_eq_true (h ▸ List.mem_cons_self)).symm
    · rw [List.find?_cons_of_neg (by simpa using h), ih]
      refine decide_eq_decide.mpr ⟨List.mem_cons_of_mem _, fun z => ?_⟩
      rcases List.mem_cons.mp z with z | z
      · exact absurd z.symm h
      · exact z
/-- the dict has just these keys -/
structure HasN (H : Hp) (xs : List NE) (ks : List NestedKey) : Prop where
  keys : KeysN H xs
  mem : ∀ k, k ∈ xs.map (·.1) ↔ k ∈ ks
  len : xs.length ≤ ks.length
theorem HasN.keep {H H' : Hp} {xs : List NE} {ks : List NestedKey} (h : HasN H xs ks) (k : Tk H H') : HasN H' xs ks := ⟨h.keys.keep k, h.mem, h.len⟩
theorem HasN.nil {H : Hp} : HasN H [] [] := ⟨fun _ h => (nomatch h), fun _ => Iff.rfl, Nat.le_refl _⟩
theorem HasN.put {H : Hp} {xs : List NE} {ks : List NestedKey} {k : NestedKey} {q : Addr} {v : V} (h : HasN H xs ks) (r : Rp H (.ref q) k.data) (hd : k.depth ≤ 8) : HasN H (putN xs k q v) (ks ++ [k]) := by
  refine ⟨putN_keys h.keys r hd, fun k' => ?_, ?_⟩
  · rw [mem_putN isSome_mem, h.mem k', List.mem_append, List.mem_singleton]
  · have := putN_length xs k q v
    have := h.len
    rw [List.length_append]
    show _ ≤ ks.length + 1
    omega
theorem HasN.at {H : Hp} {xs : List NE} {ks : List NestedKey} (h : HasN H xs ks) (k : NestedKey) : (valN xs k).isSome = decide (k ∈ ks) := isSome_mem.trans (decide_eq_decide.mpr (h.mem k))
theorem rd_lock {t : TS} {D : Ends} {σ : L2.St} {H : Hp} {d : Addr} {u : HO} (h1 : H d = some u) (h2 : Mut (some u)) (h : ∀ od, t ⟨fun σ' H' => H' d = some (.frz od u) ∧ D.nx σ' (upd H' d u), fun v H' => H' d = some (.frz od u) ∧ D.rt v (upd H' d u), fun σ' H' => H' d = some (.frz od u) ∧ D.bk σ' (upd H' d u), fun σ' H' => H' d = some (.frz od u) ∧ D.ct σ' (upd H' d u)⟩ σ (upd H d (.frz od u))) : tLock t D σ H := ⟨d, u, h1, h2, h⟩
theorem rd_ikN {P : Program} {w : World} {td : TE} {σ : L2.St} {H : Hp} {R : It → Hp → Prop} (h : td σ H fun x H1 => ∃ d o xs, x = .ref d ∧ H1 d = some (.frz o (dN P w d xs)) ∧ KeysN H1 xs ∧ R (Itn P w d o xs) H1) : iKeysN P w td σ H R := h
theorem Tk.dn {P : Program} {w : World} {H : Hp} {q a : Addr} {xs : List NE} {o : HO} (h : H q = some (dN P w a xs)) : Tk H (upd H q o) := fun c ys e => by rw [upd_ne (ne_of e h (fun z => nomatch z))]; exact e
end Rg

/-! Comprehensions of three `for`s: what goes on below the first is told clause by clause. -/
namespace Rg
open PySem PySem.Spec PyProof.Rows L2
/-- one more `for`: its source, its target, its tests, the names of it and of those below it -/
structure Cl where
  wi : TI
  g : TG
  tt : TT
  vs : List Nat
/-- the `for`s below the first, then the item, put behind the list at D; Nx is reached behind the last turn -/
def tInn (te : TE) (D : Addr) : List Cl → L2.St → Hp → (Hp → Prop) → Prop
  | [], σ, H, Nx => te σ H fun y H7 => ∃ acc, H7 D = some (.lst acc) ∧ acc.length < sizeLine ∧ Nx (upd H7 D (.lst (acc ++ [y])))
  | c :: r, σ, H, Nx => c.wi σ H fun J H4 => ∃ W : Nat → Nat → Hp → Prop, (∃ m, W 0 m H4) ∧ ∀ j k H, W j k H →
      (J.stop j H ∧ Nx H) ∨ (J.go j H ∧ ∃ Nx1 : Hp → Prop, (∀ H', Nx1 H' → ∃ k', k' < k ∧ W (j + 1) k' H') ∧ ∀ x H', J.yld j H x H' → c.g x (wipe σ c.vs) H' fun σ3 H5 => wipe σ3 c.vs = wipe σ c.vs ∧ c.tt σ3 H5 fun b H6 =>
        if b = true then tInn te D r σ3 H6 Nx1 else Nx1 H6)
def tLcN (wi : TI) (g : TG) (tt : TT) (cs : List Cl) (te : TE) (vs : List Nat) : TE := fun σ H Q => wi σ H fun J H1 => ∀ D, H1 D = none → ∃ W : Nat → Nat → Hp → Prop, (∃ m, W 0 m (upd H1 D (.lst []))) ∧ ∀ i m H, W i m H →
  (J.stop i H ∧ Q (.ref D) H) ∨ (J.go i H ∧ ∃ Nx : Hp → Prop, (∀ H', Nx H' → ∃ m', m' < m ∧ W (i + 1) m' H') ∧ ∀ x H', J.yld i H x H' → g x (wipe σ vs) H' fun σ2 H2 => wipe σ2 vs = wipe σ vs ∧ tt σ2 H2 fun b H3 =>
    if b = true then tInn te D cs σ2 H3 Nx else Nx H3)
section
variable {prog : Program} {w : World} {A : Around} {R : Result → Shared → Prop} {s : Shared} {elt t it0 it1 : Expr} {ifs : List Expr} {cs : List Comprehension} {scope : Scope} {pos : Pos} {it acc : Value} {env : Env} {i j : Nat}
/-- what a turn of a `for` that isn't the last is -/
def TurnGo (e : Expr) (i j : Nat) (t it0 it1 : Expr) (ifs : List Expr) (it acc : Value) (env : Env) : Prop := compTurn e i it acc env = (do
      standAt it0.pos
      match ← pyNext it with
      | none => pure (.done .next)
      | some v =>
        letOwnedTupleGo t it v
        assign t env v
        let mut ok := true
        for c in ifs do
          if ok then ok ← isTrue c env (eval c env)
        if ok then
          let x ← eval it1 env
          standAt it1.pos
          let x ← foldedSetIterable it1 env x
          let _ ← runOwn (.compStart e j (← holding [x] (pyIter x)) acc env) env
        again (.compLoop e i it acc env))
theorem loop_go (heq : TurnGo (.ListComp elt cs scope pos) i j t it0 it1 ifs it acc env) (hs : ∀ x, foldedSetIterable it1 env x = pure x) (I : Nat → Shared → Prop)
    (turn : ∀ n s, I n s → wpAny (model prog w) A (pyNext it) (fun r s₁ => match r with
      | none => R (.ok .next) s₁
      | some v => wpAny (model prog w) A (letOwnedTupleGo t it v) (fun _ s₁' => wpAny (model prog w) A (assign t env v) (fun _ s₂ =>
          wpAny (model prog w) A (forIn ifs true fun c r => if r = true then do let ok ← isTrue c env (eval c env); pure (ForInStep.yield ok) else pure (ForInStep.yield r)) (fun ok s₃ =>
            if ok = true then wpAny (model prog w) A (eval it1 env) (fun x s₄ => wpAny (model prog w) A (pyIter x) (fun it1' s₅ =>
              codeAny (model prog w) A (.compStart (.ListComp elt cs scope pos) j it1' acc env) (fun r s' => match r with
                | .ok _ => ∃ m, m < n ∧ I m s'
                | .error _ => False) s₅) (notedBy (model prog w) A env fun e s' => R (.error e) s') s₄) (notedBy (model prog w) A env fun e s' => R (.error e) s') s₃
            else ∃ m, m < n ∧ I m s₃) (notedBy (model prog w) A env fun e s' => R (.error e) s') s₂) (notedBy (model prog w) A env fun e s' => R (.error e) s') s₁') (notedBy (model prog w) A env fun e s' => R (.error e) s') s₁) (notedBy (model prog w) A env fun e s' => R (.error e) s') s)
    (n : Nat) (h : I n s) : codeAny (model prog w) A (.compLoop (.ListComp elt cs scope pos) i it acc env) R s := by
  refine codeAny_loop rfl I (fun n s hI => ?_) n h
  show wpAny _ A ((compTurn (.ListComp elt cs scope pos) i it acc env).onRaise (fun x => do noteFrame x env; theTreesLotGoes x)) _ _ s
  refine wpAny_noted ?_
  rw [heq]
  refine wpAny_bind (wpAny_standAt (wpAny_bind (wpAny_mono (turn n s hI) (fun r s₁ h₁ => ?_) fun _ _ h' => h')))
  cases r with
  | none => exact wpAny_pure h₁
  | some v =>
    refine wpAny_bind (wpAny_mono h₁ (fun _ s₁' h₁' => ?_) fun _ _ h' => h')
    refine wpAny_bind (wpAny_mono h₁' (fun _ s₂ h₂ => wpAny_bind (wpAny_mono h₂ (fun ok s₃ h₃ => ?_) fun _ _ h' => h')) fun _ _ h' => h')
    cases ok with
    | false => exact wpAny_pure ⟨rfl, h₃⟩
    | true =>
      refine wpAny_bind (wpAny_mono h₃ (fun x s₄ h₄ => ?_) fun _ _ h' => h')
      refine wpAny_bind (wpAny_standAt (wpAny_bind (wpAny_of_eq (hs x) (wpAny_bind (wpAny_holding (wpAny_mono h₄ (fun it1 s₅ h₅ => ?_) fun _ _ h' => h'))))))
      refine wpAny_bind (wpAny_runOwn ?_)
      rw [Around.mark_none]
      refine codeAny_mono h₅ fun r s' hr => ?_
      cases r with
      | ok f =>
        first
          | exact wpAny_pure ⟨rfl, hr⟩
          | exact wpAny_bind (wpAny_pure (wpAny_pure ⟨rfl, hr⟩))
      | error e => exact hr.elim
/-- what a turn of the last `for` is -/
def TurnIn (e elt : Expr) (i : Nat) (t it0 : Expr) (ifs : List Expr) (it acc : Value) (env : Env) : Prop := compTurn e i it acc env = (do
      standAt it0.pos
      match ← pyNext it with
      | none => pure (.done .next)
      | some v =>
        letOwnedTupleGo t it v
        assign t env v
        let mut ok := true
        for c in ifs do
          if ok then ok ← isTrue c env (eval c env)
        if ok then
          (do let _ ← call (.builtin "list.append") [acc, ← eval elt env])
        again (.compLoop e i it acc env))
theorem loop_in (heq : TurnIn (.ListComp elt cs scope pos) elt i t it0 ifs it acc env) (I : Nat → Shared → Prop)
    (turn : ∀ n s, I n s → wpAny (model prog w) A (pyNext it) (fun r s₁ => match r with
      | none => R (.ok .next) s₁
      | some v => wpAny (model prog w) A (letOwnedTupleGo t it v) (fun _ s₁' => wpAny (model prog w) A (assign t env v) (fun _ s₂ =>
          wpAny (model prog w) A (forIn ifs true fun c r => if r = true then do let ok ← isTrue c env (eval c env); pure (ForInStep.yield ok) else pure (ForInStep.yield r)) (fun ok s₃ =>
            if ok = true then wpAny (model prog w) A (eval elt env) (fun x s₄ =>
              wpAny (model prog w) A (call (.builtin "list.append") [acc, x]) (fun _ s₅ => ∃ m, m < n ∧ I m s₅) (notedBy (model prog w) A env fun e s' => R (.error e) s') s₄) (notedBy (model prog w) A env fun e s' => R (.error e) s') s₃
            else ∃ m, m < n ∧ I m s₃) (notedBy (model prog w) A env fun e s' => R (.error e) s') s₂) (notedBy (model prog w) A env fun e s' => R (.error e) s') s₁') (notedBy (model prog w) A env fun e s' => R (.error e) s') s₁) (notedBy (model prog w) A env fun e s' => R (.error e) s') s)
    (n : Nat) (h : I n s) : codeAny (model prog w) A (.compLoop (.ListComp elt cs scope pos) i it acc env) R s := by
  refine codeAny_loop rfl I (fun n s hI => ?_) n h
  show wpAny _ A ((compTurn (.ListComp elt cs scope pos) i it acc env).onRaise (fun x => do noteFrame x env; theTreesLotGoes x)) _ _ s
  refine wpAny_noted ?_
  rw [heq]
  refine wpAny_bind (wpAny_standAt (wpAny_bind (wpAny_mono (turn n s hI) (fun r s₁ h₁ => ?_) fun _ _ h' => h')))
  cases r with
  | none => exact wpAny_pure h₁
  | some v =>
    refine wpAny_bind (wpAny_mono h₁ (fun _ s₁' h₁' => ?_) fun _ _ h' => h')
    refine wpAny_bind (wpAny_mono h₁' (fun _ s₂ h₂ => wpAny_bind (wpAny_mono h₂ (fun ok s₃ h₃ => ?_) fun _ _ h' => h')) fun _ _ h' => h')
    cases ok with
    | false => exact wpAny_pure ⟨rfl, h₃⟩
    | true => exact wpAny_bind (wpAny_bind (wpAny_mono h₃ (fun x s₄ h₄ => wpAny_bind (wpAny_mono h₄ (fun _ s₅ h₅ => wpAny_pure (wpAny_pure ⟨rfl, h₅⟩)) fun _ _ h' => h')) fun _ _ h' => h'))
/-- the start of a `for` below the first: its loop, from an iterator of the iterator -/
def StartOk (e : Expr) (i : Nat) : Prop := ∀ (prog : Program) (w : World) (A : Around) (R : Result → Shared → Prop) (s : Shared) (it acc : Value) (env : Env), codeAny (model prog w) A (.compLoop e i it acc env) R s →
    wpAny (model prog w) A (pyIter it) (fun it' s' => codeAny (model prog w) A (.compLoop e i it' acc env) R s') (notedBy (model prog w) A env fun x s' => R (.error x) s') s →
    codeAny (model prog w) A (.compStart e i it acc env) R s
end
section
variable {elt t0 i0 t1 i1 t2 i2 : Expr} {ifs0 ifs1 ifs2 : List Expr} {scope : Scope} {pos : Pos} {it acc : Value} {env : Env}
theorem turn3_0 : TurnGo (.ListComp elt [⟨t0, i0, ifs0, 0⟩, ⟨t1, i1, ifs1, 0⟩, ⟨t2, i2, ifs2, 0⟩] scope pos) 0 1 t0 i0 i1 ifs0 it acc env := by
  unfold TurnGo
  rfl
theorem turn3_1 : TurnGo (.ListComp elt [⟨t0, i0, ifs0, 0⟩, ⟨t1, i1, ifs1, 0⟩, ⟨t2, i2, ifs2, 0⟩] scope pos) 1 2 t1 i1 i2 ifs1 it acc env := by
  unfold TurnGo
  rfl
theorem turn3_2 : TurnIn (.ListComp elt [⟨t0, i0, ifs0, 0⟩, ⟨t1, i1, ifs1, 0⟩, ⟨t2, i2, ifs2, 0⟩] scope pos) elt 2 t2 i2 ifs2 it acc env := by
  unfold TurnIn
  rfl
theorem start3_1 : StartOk (.ListComp elt [⟨t0, i0, ifs0, 0⟩, ⟨t1, i1, ifs1, 0⟩, ⟨t2, i2, ifs2, 0⟩] scope pos) 1 := by
  intro prog w A R s it acc env h0 h
  refine codeAny_of_tree ?_
  show wpAny _ _ ((compStart (.ListComp elt [⟨t0, i0, ifs0, 0⟩, ⟨t1, i1, ifs1, 0⟩, ⟨t2, i2, ifs2, 0⟩] scope pos) 1 it acc env).onRaise (fun x => do noteFrame x env; standAt theWindowsPlace)) _ _ s
  refine wpAny_notedAt ?_
  unfold compStart
  show wpAny _ _ (ask >>= _) _ _ s
  refine wpAny_bind (wpAny_askSetting (wpAny_ite ?_))
  split
  · first
      | exact wpAny_bind (wpAny_pure (wpAny_pure (And.intro rfl h0)))
      | exact wpAny_pure (And.intro rfl h0)
  · first
      | exact wpAny_bind (wpAny_rule (wpAny_bind (wpAny_standAt (wpAny_bind (wpAny_mono h (fun it' s' h' => wpAny_pure (And.intro rfl h')) fun _ _ x => x)))))
      | (refine wpAny_bind (wpAny_rule ?_); show wpAny _ _ (standAt i1.pos >>= _) _ _ s; exact wpAny_bind (wpAny_standAt (wpAny_bind (wpAny_mono h (fun it' s' h' => wpAny_pure (And.intro rfl h')) fun _ _ x => x))))
theorem start3_2 : StartOk (.ListComp elt [⟨t0, i0, ifs0, 0⟩, ⟨t1, i1, ifs1, 0⟩, ⟨t2, i2, ifs2, 0⟩] scope pos) 2 := by
  intro prog w A R s it acc env h0 h
  refine codeAny_of_tree ?_
  show wpAny _ _ ((compStart (.ListComp elt [⟨t0, i0, ifs0, 0⟩, ⟨t1, i1, ifs1, 0⟩, ⟨t2, i2, ifs2, 0⟩] scope pos) 2 it acc env).onRaise (fun x => do noteFrame x env; standAt theWindowsPlace)) _ _ s
  refine wpAny_notedAt ?_
  unfold compStart
  show wpAny _ _ (ask >>= _) _ _ s
  refine wpAny_bind (wpAny_askSetting (wpAny_ite ?_))
  split
  · first
      | exact wpAny_bind (wpAny_pure (wpAny_pure (And.intro rfl h0)))
      | exact wpAny_pure (And.intro rfl h0)
  · first
      | exact wpAny_bind (wpAny_rule (wpAny_bind (wpAny_standAt (wpAny_bind (wpAny_mono h (fun it' s' h' => wpAny_pure (And.intro rfl h')) fun _ _ x => x)))))
      | (refine wpAny_bind (wpAny_rule ?_); show wpAny _ _ (standAt i2.pos >>= _) _ _ s; exact wpAny_bind (wpAny_standAt (wpAny_bind (wpAny_mono h (fun it' s' h' => wpAny_pure (And.intro rfl h')) fun _ _ x => x))))
end
section
variable {X : Cx} {s0 : Shared} {H0 : Hp} {scope : Scope} {ce : Env} {fp : List Addr} {elt : Expr} {cs : List Comprehension} {scp : Scope} {pos : Pos} {te : TE} {D : Addr}
/-- the `for`s from one on do what is told of them -/
def InnOk (X : Cx) (s0 : Shared) (H0 : Hp) (scope : Scope) (ce : Env) (fp : List Addr) (e : Expr) (i : Nat) (iter : Expr) (te : TE) (D : Addr) (c : Cl) (r : List Cl) : Prop :=
  ∀ (pins : List (Addr × Obj)) (s : Shared) (σ : L2.St) (H : Hp) (Nx : Hp → Prop) (Post : Shared → Prop) (E : Value → Shared → Prop), Inv (X.blk s0 H0 scope ce fp) pins σ H s → tInn te D (c :: r) σ H Nx → (∀ H' s', Inv (X.blk s0 H0 scope ce fp) pins (wipe σ c.vs) H' s' → Nx H' → Post s') →
    wpAny (model X.prog X.w) X.A (eval iter ce) (fun xv s4 => wpAny (model X.prog X.w) X.A (pyIter xv) (fun it s5 => codeAny (model X.prog X.w) X.A (.compStart e i it (.ref D) ce) (fun r s' => match r with
      | .ok _ => Post s'
      | .error _ => False) s5) E s4) E s
theorem inn_last {i : Nat} {tg iter : Expr} {ifs : List Expr} {c : Cl} (hc : X.calm = true) (st : StartOk (.ListComp elt cs scp pos) i) (tn : ∀ it, TurnIn (.ListComp elt cs scp pos) elt i tg iter ifs it (.ref D) ce)
    (pi : PI (X.blk s0 H0 scope ce fp) tg iter c.wi) (pg : PG (X.blk s0 H0 scope ce fp) tg c.g) (pt : PTs (X.blk s0 H0 scope ce fp) ifs c.tt) (pe : PE (X.blk s0 H0 scope ce fp) elt te) : InnOk X s0 H0 scope ce fp (.ListComp elt cs scp pos) i iter te D c [] := by
  intro pins s σ H Nx Post E I h hP
  refine thnF (pi.run pins s σ H _ I h) fun xv s10 hx => thnF hx fun itv s11 h11 => ?_
  obtain ⟨it1, fp1, tn1, J1, H11, e1, I11, T1, st11, f11, W1, ⟨m1, w1⟩, turn1⟩ := h11
  subst e1
  have stat1 : ∀ {H' : Hp}, (∀ b ∈ fp1, H' b = none) → ∀ b ∈ fp1, FpOk (X.blk s0 H0 scope ce fp) pins H' b := fun hn b hb => ⟨hn b hb, (f11 b hb).2⟩
  have loop1 : codeAny (model X.prog X.w) X.A (.compLoop (.ListComp elt cs scp pos) i (.ref it1) (.ref D) ce) (fun r s' => match r with
      | .ok _ => Post s'
      | .error _ => False) s11 := by
    refine loop_in (tn _) (fun k s' => ∃ j H', Inv (X.blk s0 H0 scope ce fp) pins (wipe σ c.vs) H' s' ∧ tn1 j s'.heap ∧ (∀ b ∈ fp1, H' b = none) ∧ W1 j k H') ?_ m1 ⟨0, H11, I11.weak (wipe_length _ _) (fun j v e => (wipe_some e).1), st11, fun b hb => (f11 b hb).1, w1⟩
    rintro k s12 ⟨j, H12, I12, st12, n12, w12⟩
    rcases turn1 j k H12 w12 with ⟨stop1, nx1⟩ | ⟨go1, Nx1, hNx1, step1⟩
    · refine thnF (T1.done (X.blk s0 H0 scope ce fp) rfl rfl rfl hc j _ s12 (wipe σ c.vs) H12 (fun _ _ => False) I12 (stat1 n12) st12 stop1) fun r s13 ⟨hr, I13⟩ => ?_
      subst hr
      exact hP _ _ I13 nx1
    · refine thnF (T1.item (X.blk s0 H0 scope ce fp) rfl rfl rfl hc j _ s12 (wipe σ c.vs) H12 (fun _ _ => False) I12 (stat1 n12) st12 go1) fun r s13 ⟨u1, hr, h13⟩ => ?_
      subst hr
      refine thnF h13 fun _ s14 ⟨x1, H14, I14, r14, y14, st14, n14⟩ => ?_
      have I14' := I14.pinned (stat1 n14) (T1.obj _ _ st14)
      refine thnF (pg.run _ s14 (wipe σ c.vs) H14 x1 u1 _ I14' r14 (step1 x1 H14 y14)) fun _ s15 ⟨σ15, H15, I15, hw15, q15⟩ => ?_
      refine thnF (pt.run _ s15 σ15 H15 _ I15 q15) fun b1 s16 ⟨H16, I16, q16⟩ => ?_
      have fin1 : ∀ {s' : Shared} {H' : Hp}, Inv (X.blk s0 H0 scope ce fp) (pins ++ pinsAt fp1 s14.heap) σ15 H' s' → Nx1 H' → ∃ m, m < k ∧ ∃ j H', Inv (X.blk s0 H0 scope ce fp) pins (wipe σ c.vs) H' s' ∧ tn1 j s'.heap ∧ (∀ b ∈ fp1, H' b = none) ∧ W1 j m H' := fun {s' H'} I' nx => by
        obtain ⟨m', hm, w'⟩ := hNx1 H' nx
        have pin' : ∀ b ∈ fp1, ∀ o, s14.heap.get? b = some o → s'.heap.get? b = some o ∧ H' b = none := fun b hb o e =>
          let z := I'.pin (b, o) (List.mem_append_right _ (List.mem_append_right _ (mem_pinsAt hb e)))
          ⟨z.1, z.2.1⟩
        refine ⟨m', hm, j + 1, H', I'.unpinned.weak (by rw [← hw15, wipe_length]) (fun j v e => by rw [← hw15] at e; exact (wipe_some e).1), T1.keep _ _ _ st14 fun b hb o e => (pin' b hb o e).1, fun b hb => ?_, w'⟩
        obtain ⟨o, e, _⟩ := T1.obj _ _ st14 b hb
        exact (pin' b hb o e).2
      cases b1 with
      | false =>
        simp only [Bool.false_eq_true, if_false] at q16 ⊢
        exact fin1 I16 q16
      | true =>
        simp only [if_true] at q16 ⊢
        refine thnF (pe.run _ s16 σ15 H16 _ I16 q16) fun z s17 ⟨yv, H17, I17, r17, acc, hD17, hz17, nx⟩ => ?_
        exact app_ok (X := X.blk s0 H0 scope ce fp) I17 hD17 hz17 r17 fun s18 I18 => fin1 I18 nx
  exact st _ _ _ _ _ _ _ _ loop1 (T1.self X.A 0 _ _ _ st11 loop1)
theorem inn_more {i j : Nat} {tg iter iter1 : Expr} {ifs : List Expr} {c c1 : Cl} {r : List Cl} (hc : X.calm = true) (st : StartOk (.ListComp elt cs scp pos) i) (tn : ∀ it, TurnGo (.ListComp elt cs scp pos) i j tg iter iter1 ifs it (.ref D) ce) (hs : ∀ x, foldedSetIterable iter1 ce x = pure x) (hv : ∀ x ∈ c1.vs, x ∈ c.vs)
    (pi : PI (X.blk s0 H0 scope ce fp) tg iter c.wi) (pg : PG (X.blk s0 H0 scope ce fp) tg c.g) (pt : PTs (X.blk s0 H0 scope ce fp) ifs c.tt) (inn : InnOk X s0 H0 scope ce fp (.ListComp elt cs scp pos) j iter1 te D c1 r) : InnOk X s0 H0 scope ce fp (.ListComp elt cs scp pos) i iter te D c (c1 :: r) := by
  intro pins s σ H Nx Post E I h hP
  refine thnF (pi.run pins s σ H _ I h) fun xv s10 hx => thnF hx fun itv s11 h11 => ?_
  obtain ⟨it1, fp1, tn1, J1, H11, e1, I11, T1, st11, f11, W1, ⟨m1, w1⟩, turn1⟩ := h11
  subst e1
  have stat1 : ∀ {H' : Hp}, (∀ b ∈ fp1, H' b = none) → ∀ b ∈ fp1, FpOk (X.blk s0 H0 scope ce fp) pins H' b := fun hn b hb => ⟨hn b hb, (f11 b hb).2⟩
  have loop1 : codeAny (model X.prog X.w) X.A (.compLoop (.ListComp elt cs scp pos) i (.ref it1) (.ref D) ce) (fun r s' => match r with
      | .ok _ => Post s'
      | .error _ => False) s11 := by
    refine loop_go (tn _) hs (fun k s' => ∃ j H', Inv (X.blk s0 H0 scope ce fp) pins (wipe σ c.vs) H' s' ∧ tn1 j s'.heap ∧ (∀ b ∈ fp1, H' b = none) ∧ W1 j k H') ?_ m1 ⟨0, H11, I11.weak (wipe_length _ _) (fun j v e => (wipe_some e).1), st11, fun b hb => (f11 b hb).1, w1⟩
    rintro k s12 ⟨j, H12, I12, st12, n12, w12⟩
    rcases turn1 j k H12 w12 with ⟨stop1, nx1⟩ | ⟨go1, Nx1, hNx1, step1⟩
    · refine thnF (T1.done (X.blk s0 H0 scope ce fp) rfl rfl rfl hc j _ s12 (wipe σ c.vs) H12 (fun _ _ => False) I12 (stat1 n12) st12 stop1) fun r s13 ⟨hr, I13⟩ => ?_
      subst hr
      exact hP _ _ I13 nx1
    · refine thnF (T1.item (X.blk s0 H0 scope ce fp) rfl rfl rfl hc j _ s12 (wipe σ c.vs) H12 (fun _ _ => False) I12 (stat1 n12) st12 go1) fun r s13 ⟨u1, hr, h13⟩ => ?_
      subst hr
      refine thnF h13 fun _ s14 ⟨x1, H14, I14, r14, y14, st14, n14⟩ => ?_
      have I14' := I14.pinned (stat1 n14) (T1.obj _ _ st14)
      refine thnF (pg.run _ s14 (wipe σ c.vs) H14 x1 u1 _ I14' r14 (step1 x1 H14 y14)) fun _ s15 ⟨σ15, H15, I15, hw15, q15⟩ => ?_
      refine thnF (pt.run _ s15 σ15 H15 _ I15 q15) fun b1 s16 ⟨H16, I16, q16⟩ => ?_
      have fin1 : ∀ {s' : Shared} {H' : Hp} {σ' : L2.St}, Inv (X.blk s0 H0 scope ce fp) (pins ++ pinsAt fp1 s14.heap) σ' H' s' → (wipe σ c.vs).length = σ'.length → (∀ (j : Nat) v, (wipe σ c.vs)[j]? = some (some v) → σ'[j]? = some (some v)) → Nx1 H' → ∃ m, m < k ∧ ∃ j H', Inv (X.blk s0 H0 scope ce fp) pins (wipe σ c.vs) H' s' ∧ tn1 j s'.heap ∧ (∀ b ∈ fp1, H' b = none) ∧ W1 j m H' := fun {s' H' σ'} I' hl hk nx => by
        obtain ⟨m', hm, w'⟩ := hNx1 H' nx
        have pin' : ∀ b ∈ fp1, ∀ o, s14.heap.get? b = some o → s'.heap.get? b = some o ∧ H' b = none := fun b hb o e =>
          let z := I'.pin (b, o) (List.mem_append_right _ (List.mem_append_right _ (mem_pinsAt hb e)))
          ⟨z.1, z.2.1⟩
        refine ⟨m', hm, j + 1, H', I'.unpinned.weak hl hk, T1.keep _ _ _ st14 fun b hb o e => (pin' b hb o e).1, fun b hb => ?_, w'⟩
        obtain ⟨o, e, _⟩ := T1.obj _ _ st14 b hb
        exact (pin' b hb o e).2
      have hl15 : (wipe σ c.vs).length = σ15.length := by rw [← hw15, wipe_length]
      have hk15 : ∀ (j : Nat) v, (wipe σ c.vs)[j]? = some (some v) → σ15[j]? = some (some v) ∧ j ∉ c.vs := fun j v e => by
        rw [← hw15] at e
        exact wipe_some e
      cases b1 with
      | false =>
        simp only [Bool.false_eq_true, if_false] at q16 ⊢
        exact fin1 I16 hl15 (fun j v e => (hk15 j v e).1) q16
      | true =>
        simp only [if_true] at q16 ⊢
        refine inn _ s16 σ15 H16 Nx1 _ _ I16 q16 fun H' s' I' nx => ?_
        exact fin1 I' (hl15.trans (wipe_length σ15 c1.vs).symm) (fun j v e => by
          obtain ⟨e1, e2⟩ := hk15 j v e
          rw [wipe_out fun z => e2 (hv j z)]
          exact e1) nx
  exact st _ _ _ _ _ _ _ _ loop1 (T1.self X.A 0 _ _ _ st11 loop1)
end
section
variable {X : Cx}
/-- a comprehension whose first `for` goes on into others -/
theorem lcN_core {pins : List (Addr × Obj)} {s : Shared} {σ : L2.St} {H : Hp} {Q : VK} {elt tg iter iter1 : Expr} {ifs : List Expr} {cs : List Comprehension} {scope : Scope} {own : List (Str × Nat)} {pos pos' : Pos} {wi : TI} {g : TG} {tt : TT} {te : TE} {c1 : Cl} {r : List Cl} {use : Option (Value → Sem Unit)} {Qf : Value → Shared → Prop}
    (hc : X.calm = true) (hN : X.N.Nodup) (I : Inv X pins σ H s) (hi : PI X tg iter wi) (ok : BlkOk X.N X.env.scope scope own) (hv : ∀ i ∈ c1.vs, i ∈ own.map (·.2))
    (hg : ∀ (s : Shared) (H : Hp) (C : Addr) (cl : List (Str × Addr)) (fp : List Addr), PG (X.blk s H scope (compEnvC scope cl C X.env) fp) tg g) (ht : ∀ (s : Shared) (H : Hp) (C : Addr) (cl : List (Str × Addr)) (fp : List Addr), PTs (X.blk s H scope (compEnvC scope cl C X.env) fp) ifs tt)
    (tn : ∀ it acc env, TurnGo (.ListComp elt (⟨tg, iter, ifs, 0⟩ :: cs) scope pos) 0 1 tg iter iter1 ifs it acc env) (hs : ∀ x, foldedSetIterable iter X.env x = pure x) (hs1 : ∀ env x, foldedSetIterable iter1 env x = pure x)
    (hin : ∀ (s : Shared) (H : Hp) (C : Addr) (cl : List (Str × Addr)) (fp : List Addr) (D : Addr), InnOk X s H scope (compEnvC scope cl C X.env) fp (.ListComp elt (⟨tg, iter, ifs, 0⟩ :: cs) scope pos) 1 iter1 te D c1 r)
    (h : tLcN wi g tt (c1 :: r) te (own.map (·.2)) σ H Q)
    (hRR : ∀ D C s' m H', Inv X pins σ H' s' → Q (.ref D) H' → s'.heap.Ns C m → FpOk X pins H' C → compPost (model X.prog X.w) X.A X.xe use Qf (.ref D) C (.ok .next) s') :
    wpAny (model X.prog X.w) X.A (comprehension (.ListComp elt (⟨tg, iter, ifs, 0⟩ :: cs) scope pos) scope X.env pos' (newList []) false (eval iter X.env) use) Qf X.xe s := by
  have hfree : ∀ y ∈ scope.names, y.2 = .free → ∃ c, X.env.cells.lookup y.1 = some c := fun y hy e => by
    rcases ok.free y hy e with k | k
    · exact I.ok.has _ (.inl k)
    · exact I.ok.has _ (.inr k)
  refine wpAny_comprehension_free (use := use) rfl hs (closure_ok hfree) ok.kind (fun y hy e => by rw [ok.uniq y hy, e])
    (thn (hi.run pins s σ H _ I h) fun xv s1 hx => thn hx fun itv s2 h2 => ?_)
  obtain ⟨it, fp, tnn, J, H2, e, I2, T, st2, f2, q⟩ := h2
  subst e
  refine wpAny_newObj_type (newEnv_comp ?_) (by show 0 ≤ sizeLine; decide)
  generalize hD : s2.heap.objs.size = D
  have hDn : H2 D = none := I2.hok.fresh (Nat.le_of_eq hD)
  obtain ⟨W, ⟨m0, w0⟩, turn⟩ := q D hDn
  generalize hs3 : ({ s2 with heap := s2.heap.push { cls := .type "list", data := .seq ([] : List Value).toArray } } : Shared) = s3
  have I3 : Inv X pins σ (upd H2 D (.lst [])) s3 := by
    rw [← hs3]
    refine I2.laid (t' := s2.toks) (fun b o e => Heap.get?_push_of_some _ e) (Nat.le_of_eq hD) ⟨Nat.zero_le _, [], 0, .nil, ?_⟩
    rw [← hD]
    exact Heap.get?_push_size _ rfl
  have h3 : s3.heap = s2.heap.push { cls := .type "list", data := .seq ([] : List Value).toArray } := by rw [← hs3]
  have sz : ∀ b ∈ fp, b < s2.heap.objs.size := fun b hb => by
    obtain ⟨o, e, _⟩ := T.obj _ _ st2 b hb
    exact Heap.lt_size e
  have f3 : ∀ b ∈ fp, FpOk X pins (upd H2 D (.lst [])) b ∧ b < s3.heap.objs.size := fun b hb => by
    have hlt := sz b hb
    refine ⟨⟨?_, (f2 b hb).2⟩, by rw [h3, Heap.size_push]; exact Nat.lt_succ_of_lt hlt⟩
    rw [upd_ne (by rw [← hD]; exact Nat.ne_of_lt hlt)]
    exact (f2 b hb).1
  have st3 : tnn 0 s3.heap := T.keep _ _ _ st2 fun b _ o e => by rw [h3]; exact Heap.get?_push_of_some _ e
  have I4 := block_start I3 ok hN f3
  have pg := hg s3 (upd H2 D (.lst [])) s3.heap.objs.size (cellsFrom (s3.heap.objs.size + 1) scope.names (cloFrom X.env.cells scope.names [])) fp
  have pt := ht s3 (upd H2 D (.lst [])) s3.heap.objs.size (cellsFrom (s3.heap.objs.size + 1) scope.names (cloFrom X.env.cells scope.names [])) fp
  have pin := hin s3 (upd H2 D (.lst [])) s3.heap.objs.size (cellsFrom (s3.heap.objs.size + 1) scope.names (cloFrom X.env.cells scope.names [])) fp D
  show codeAny _ _ (.compStart (.ListComp elt (⟨tg, iter, ifs, 0⟩ :: cs) scope pos) 0 (.ref it) (.ref D) (compEnvC scope (cellsFrom (s3.heap.objs.size + 1) scope.names (cloFrom X.env.cells scope.names [])) s3.heap.objs.size X.env)) (compPost (model X.prog X.w) X.A X.xe use Qf (.ref D) s3.heap.objs.size) { s3 with heap := pushCells (s3.heap.push { cls := .type "dict", data := .dict #[] }) scope.names }
  have nfp : ∀ b ∈ fp, (upd H2 D (.lst [])) b = none := fun b hb => (f3 b hb).1.1
  generalize hce : compEnvC scope (cellsFrom (s3.heap.objs.size + 1) scope.names (cloFrom X.env.cells scope.names [])) s3.heap.objs.size X.env = ce at I4 pg pt pin ⊢
  have cL : ce.locals = s3.heap.objs.size := by subst hce; rfl
  generalize hH3 : upd H2 D (.lst []) = H3 at I3 I4 pg pt pin w0 nfp f3
  generalize hs4 : ({ s3 with heap := pushCells (s3.heap.push { cls := .type "dict", data := .dict #[] }) scope.names } : Shared) = s4 at I4 ⊢
  have st4 : tnn 0 s4.heap := T.keep _ _ _ st3 fun b _ o e => by rw [← hs4]; exact pushCells_keeps _ _ _ _ (Heap.get?_push_of_some _ e)
  have stat : ∀ {σ' : L2.St} {H' : Hp} {s' : Shared}, Inv (X.blk s3 H3 scope ce fp) [] σ' H' s' → (∀ b ∈ fp, H' b = none) → ∀ b ∈ fp, FpOk (X.blk s3 H3 scope ce fp) [] H' b := fun {σ' H' s'} I' hn b hb =>
    ⟨hn b hb, (I'.ok.exf b hb).1, I'.ok.exfs b hb, .inl hb, fun x c e => (I'.ok.exf b hb).2 x c e, fun p hp => absurd (show p ∈ ([] : List (Addr × Obj)) ++ [] from hp) (by simp)⟩
  have loop : codeAny (model X.prog X.w) X.A (.compLoop (.ListComp elt (⟨tg, iter, ifs, 0⟩ :: cs) scope pos) 0 (.ref it) (.ref D) ce) (compPost (model X.prog X.w) X.A X.xe use Qf (.ref D) s3.heap.objs.size) s4 := by
    refine loop_go (tn _ _ _) (hs1 ce) (fun n s' => ∃ i H', Inv (X.blk s3 H3 scope ce fp) [] (wipe σ (own.map (·.2))) H' s' ∧ tnn i s'.heap ∧ (∀ b ∈ fp, H' b = none) ∧ W i n H') ?_ m0 ⟨0, H3, I4, st4, nfp, w0⟩
    rintro n s5 ⟨i, H5, I5, st5, n5, w5⟩
    rcases turn i n H5 w5 with ⟨stop, qq⟩ | ⟨go, Nx, hNx, step⟩
    · have td := T.done (X.blk s3 H3 scope ce fp) rfl rfl rfl hc i [] s5 _ H5 (fun _ _ => False) I5 (stat I5 n5) st5 stop
      refine thnF td fun r s6 ⟨hr, I6⟩ => ?_
      subst hr
      have I7 : Inv X pins σ H5 s6 := I3.call' (ch := fp) I6.os I6.base I6.hok I6.bare fun b hb => ⟨(f3 b hb).1.2.2.2.1, (f3 b hb).1.2.1, (f3 b hb).1.2.2.2.2.1, (f3 b hb).1.2.2.2.2.2⟩
      have nC : H5 s3.heap.objs.size = none := by
        have z : H5 ce.locals = none := I6.free
        rw [cL] at z
        exact z
      obtain ⟨m, hn, _⟩ := I6.loc
      have hn : s6.heap.Ns ce.locals m := hn
      rw [cL] at hn
      exact hRR D s3.heap.objs.size s6 m H5 I7 qq hn (I3.fpOk (Nat.le_refl _) nC)
    · have ti := T.item (X.blk s3 H3 scope ce fp) rfl rfl rfl hc i [] s5 _ H5 (fun _ _ => False) I5 (stat I5 n5) st5 go
      refine thnF ti fun r s6 ⟨u, hr, h6⟩ => ?_
      subst hr
      refine thnF h6 fun _ s7 ⟨x, H7, I7, r7, y7, st7, n7⟩ => ?_
      have I7' := I7.pinned (stat I7 n7) (T.obj _ _ st7)
      refine thnF (pg.run _ s7 _ H7 x u _ I7' r7 (step x H7 y7)) fun _ s8 ⟨σ8, H8, I8, hw8, q8⟩ => ?_
      refine thnF (pt.run _ s8 σ8 H8 _ I8 q8) fun b s9 ⟨H9, I9, q9⟩ => ?_
      have fin : ∀ {σ9 : L2.St} {s' : Shared} {H' : Hp}, Inv (X.blk s3 H3 scope ce fp) ([] ++ pinsAt fp s7.heap) σ9 H' s' → (wipe σ (own.map (·.2))).length = σ9.length → (∀ (j : Nat) v, (wipe σ (own.map (·.2)))[j]? = some (some v) → σ9[j]? = some (some v)) → Nx H' →
          ∃ m, m < n ∧ ∃ i H', Inv (X.blk s3 H3 scope ce fp) [] (wipe σ (own.map (·.2))) H' s' ∧ tnn i s'.heap ∧ (∀ b ∈ fp, H' b = none) ∧ W i m H' := fun {σ9 s' H'} I' hl hk nx => by
        obtain ⟨m', hm, w'⟩ := hNx H' nx
        have pin' : ∀ b ∈ fp, ∀ o, s7.heap.get? b = some o → s'.heap.get? b = some o ∧ H' b = none := fun b hb o e =>
          let z := I'.pin (b, o) (List.mem_append_right _ (List.mem_append_right _ (mem_pinsAt hb e)))
          ⟨z.1, z.2.1⟩
        refine ⟨m', hm, i + 1, H', (I'.unpinned (pins := [])).weak hl hk, T.keep _ _ _ st7 fun b hb o e => (pin' b hb o e).1, fun b hb => ?_, w'⟩
        obtain ⟨o, e, _⟩ := T.obj _ _ st7 b hb
        exact (pin' b hb o e).2
      have hl8 : (wipe σ (own.map (·.2))).length = σ8.length := by rw [← hw8, wipe_length]
      have hk8 : ∀ (j : Nat) v, (wipe σ (own.map (·.2)))[j]? = some (some v) → σ8[j]? = some (some v) ∧ j ∉ own.map (·.2) := fun j v e => by
        rw [← hw8] at e
        exact wipe_some e
      cases b with
      | false =>
        simp only [Bool.false_eq_true, if_false] at q9 ⊢
        exact fin I9 hl8 (fun j v e => (hk8 j v e).1) q9
      | true =>
        simp only [if_true] at q9 ⊢
        refine pin _ s9 σ8 H9 Nx _ _ I9 q9 fun H' s' I' nx => ?_
        exact fin I' (hl8.trans (wipe_length σ8 c1.vs).symm) (fun j v e => by
          obtain ⟨e1, e2⟩ := hk8 j v e
          rw [wipe_out fun z => e2 (hv j z)]
          exact e1) nx
  exact codeAny_compStart_list loop (T.self X.A 0 _ _ _ st4 loop)
/-- [elt for .. for .. for ..], as a value -/
theorem pe_lc3 {elt t0 i0 t1 i1 t2 i2 : Expr} {ifs0 ifs1 ifs2 : List Expr} {scope : Scope} {own : List (Str × Nat)} {vs1 vs2 : List Nat} {pos : Pos} {wi wi1 wi2 : TI} {g g1 g2 : TG} {tt tt1 tt2 : TT} {te : TE} (hc : X.calm = true) (hN : X.N.Nodup) (hi : PI X t0 i0 wi) (ok : BlkOk X.N X.env.scope scope own) (hv : ∀ i ∈ vs1, i ∈ own.map (·.2)) (hv2 : ∀ i ∈ vs2, i ∈ vs1)
    (hg : ∀ (s : Shared) (H : Hp) (C : Addr) (cl : List (Str × Addr)) (fp : List Addr), PG (X.blk s H scope (compEnvC scope cl C X.env) fp) t0 g) (ht : ∀ (s : Shared) (H : Hp) (C : Addr) (cl : List (Str × Addr)) (fp : List Addr), PTs (X.blk s H scope (compEnvC scope cl C X.env) fp) ifs0 tt)
    (hi1 : ∀ (s : Shared) (H : Hp) (C : Addr) (cl : List (Str × Addr)) (fp : List Addr), PI (X.blk s H scope (compEnvC scope cl C X.env) fp) t1 i1 wi1)
    (hg1 : ∀ (s : Shared) (H : Hp) (C : Addr) (cl : List (Str × Addr)) (fp : List Addr), PG (X.blk s H scope (compEnvC scope cl C X.env) fp) t1 g1) (ht1 : ∀ (s : Shared) (H : Hp) (C : Addr) (cl : List (Str × Addr)) (fp : List Addr), PTs (X.blk s H scope (compEnvC scope cl C X.env) fp) ifs1 tt1)
    (hi2 : ∀ (s : Shared) (H : Hp) (C : Addr) (cl : List (Str × Addr)) (fp : List Addr), PI (X.blk s H scope (compEnvC scope cl C X.env) fp) t2 i2 wi2)
    (hg2 : ∀ (s : Shared) (H : Hp) (C : Addr) (cl : List (Str × Addr)) (fp : List Addr), PG (X.blk s H scope (compEnvC scope cl C X.env) fp) t2 g2) (ht2 : ∀ (s : Shared) (H : Hp) (C : Addr) (cl : List (Str × Addr)) (fp : List Addr), PTs (X.blk s H scope (compEnvC scope cl C X.env) fp) ifs2 tt2)
    (he : ∀ (s : Shared) (H : Hp) (C : Addr) (cl : List (Str × Addr)) (fp : List Addr), PE (X.blk s H scope (compEnvC scope cl C X.env) fp) elt te) (hs : ∀ x, foldedSetIterable i0 X.env x = pure x := by intro _; rfl) (hs1 : ∀ env x, foldedSetIterable i1 env x = pure x := by intro _ _; rfl) (hs2 : ∀ env x, foldedSetIterable i2 env x = pure x := by intro _ _; rfl) :
    PE X (.ListComp elt [⟨t0, i0, ifs0, 0⟩, ⟨t1, i1, ifs1, 0⟩, ⟨t2, i2, ifs2, 0⟩] scope pos) (tLcN wi g tt [⟨wi1, g1, tt1, vs1⟩, ⟨wi2, g2, tt2, vs2⟩] te (own.map (·.2))) := by
  refine ⟨fun pins s σ H Q I h => ?_⟩
  rw [eval_ListComp]
  refine lcN_core (c1 := ⟨wi1, g1, tt1, vs1⟩) (r := [⟨wi2, g2, tt2, vs2⟩]) hc hN I hi ok hv hg ht (fun _ _ _ => turn3_0) hs hs1 (fun s H C cl fp D => ?_) h fun D C s' m H' I' q hn f => ⟨m, hn, fun h'' sb => ?_⟩
  · exact inn_more (c := ⟨wi1, g1, tt1, vs1⟩) (c1 := ⟨wi2, g2, tt2, vs2⟩) hc start3_1 (fun _ => turn3_1) (hs2 _) hv2 (hi1 s H C cl fp) (hg1 s H C cl fp) (ht1 s H C cl fp) (inn_last hc start3_2 (fun _ => turn3_2) (hi2 s H C cl fp) (hg2 s H C cl fp) (ht2 s H C cl fp) (he s H C cl fp))
  · obtain ⟨f0, f1, f2, f3, f4, f5⟩ := f
    exact ⟨.ref D, H', I'.turned (t' := s'.toks) (fun b o hb e => (sb.2 b hb).trans e) f0 f1 f3 f4 f5, rfl, q⟩
end
section
variable {J : It} {n : Nat} {G : Hp → Prop} {Y : Nat → Hp → V → Hp → Prop}
theorem rd_lcN {wi : TI} {g : TG} {tt : TT} {cs : List Cl} {te : TE} {vs : List Nat} {σ : L2.St} {H : Hp} {Q : VK} (h : wi σ H fun J H1 => ∀ D, H1 D = none → ∃ W : Nat → Nat → Hp → Prop, (∃ m, W 0 m (upd H1 D (.lst []))) ∧ ∀ i m H, W i m H →
  (J.stop i H ∧ Q (.ref D) H) ∨ (J.go i H ∧ ∃ Nx : Hp → Prop, (∀ H', Nx H' → ∃ m', m' < m ∧ W (i + 1) m' H') ∧ ∀ x H', J.yld i H x H' → g x (wipe σ vs) H' fun σ2 H2 => wipe σ2 vs = wipe σ vs ∧ tt σ2 H2 fun b H3 =>
    if b = true then tInn te D cs σ2 H3 Nx else Nx H3)) : tLcN wi g tt cs te vs σ H Q := h
theorem rd_inn {wi : TI} {g : TG} {tt : TT} {vs : List Nat} {r : List Cl} {te : TE} {D : Addr} {σ : L2.St} {H : Hp} {Nx : Hp → Prop} (h : wi σ H fun J H4 => ∃ W : Nat → Nat → Hp → Prop, (∃ m, W 0 m H4) ∧ ∀ j k H, W j k H →
      (J.stop j H ∧ Nx H) ∨ (J.go j H ∧ ∃ Nx1 : Hp → Prop, (∀ H', Nx1 H' → ∃ k', k' < k ∧ W (j + 1) k' H') ∧ ∀ x H', J.yld j H x H' → g x (wipe σ vs) H' fun σ3 H5 => wipe σ3 vs = wipe σ vs ∧ tt σ3 H5 fun b H6 =>
        if b = true then tInn te D r σ3 H6 Nx1 else Nx1 H6)) : tInn te D (⟨wi, g, tt, vs⟩ :: r) σ H Nx := h
theorem rd_inn0 {te : TE} {D : Addr} {σ : L2.St} {H : Hp} {Nx : Hp → Prop} (h : te σ H fun y H7 => ∃ acc, H7 D = some (.lst acc) ∧ acc.length < sizeLine ∧ Nx (upd H7 D (.lst (acc ++ [y])))) : tInn te D [] σ H Nx := h
theorem rd_irng2 {ta : TA} {σ : L2.St} {H : Hp} {R : It → Hp → Prop} (h : ta σ H fun vs H1 => ∃ i j : Int, vs = [.int i, .int j] ∧ (-(2 ^ 62) ≤ i ∧ i < 2 ^ 62 ∧ -(2 ^ 62) ≤ j ∧ j < 2 ^ 62) ∧ R (Itr i (j - i).toNat) H1) : iRng2 ta σ H R := h
/-- a `for` of a comprehension of several, over a walk -/
theorem inn_it (w : Walk J n G Y) {g : TG} {tt : TT} {vs : List Nat} {σ : L2.St} {H1 : Hp} {B : L2.St → Hp → (Hp → Prop) → Prop} {Nx : Hp → Prop} (Pv : Nat → Hp → Prop) (h0 : Pv 0 H1) (hG : ∀ i H, i ≤ n → Pv i H → G H)
    (hs : ∀ i x H H', i < n → Pv i H → Y i H x H' → g x (wipe σ vs) H' fun σ3 H5 => wipe σ3 vs = wipe σ vs ∧ tt σ3 H5 fun b H6 => if b = true then B σ3 H6 (Pv (i + 1)) else Pv (i + 1) H6) (hd : ∀ H, Pv n H → Nx H) :
    ∃ W : Nat → Nat → Hp → Prop, (∃ m, W 0 m H1) ∧ ∀ j k H, W j k H →
      (J.stop j H ∧ Nx H) ∨ (J.go j H ∧ ∃ Nx1 : Hp → Prop, (∀ H', Nx1 H' → ∃ k', k' < k ∧ W (j + 1) k' H') ∧ ∀ x H', J.yld j H x H' → g x (wipe σ vs) H' fun σ3 H5 => wipe σ3 vs = wipe σ vs ∧ tt σ3 H5 fun b H6 =>
        if b = true then B σ3 H6 Nx1 else Nx1 H6) := by
  refine ⟨fun i m H => m = n - i ∧ i ≤ n ∧ Pv i H, ⟨n, by simp, Nat.zero_le _, h0⟩, ?_⟩
  rintro i m H ⟨rfl, hi, p⟩
  have q := hG i H hi p
  by_cases hlt : i < n
  · exact .inr ⟨w.goes i H hlt q, Pv (i + 1), fun H' p' => ⟨n - (i + 1), by omega, rfl, hlt, p'⟩, fun x H' y => hs i x H H' hlt p (w.yields i H x H' hlt q y)⟩
  · have e : i = n := by omega
    subst e
    exact .inl ⟨w.stops H q, hd H p⟩
end
end Rg

/-! A comprehension that lets an exception out. -/
namespace Rg
open PySem PySem.Spec PyProof.Rows L2
/-- the post of a comprehension's block, the block's env told -/
def cpX (M : Model) (A : Around) (E : Value → Shared → Prop) (use : Option (Value → Sem Unit)) (Q : Value → Shared → Prop) (acc : Value) (ce : Env) (r : Result) (s' : Shared) : Prop :=
  match r, use with
  | .ok _, none => ∃ m, s'.heap.Ns ce.locals m ∧ ∀ h', Heap.SameBut ce.locals s'.heap h' → Q acc { s' with heap := h' }
  | .ok _, some u => wpAny M A (u acc) (fun _ s'' => ∃ m, s''.heap.Ns ce.locals m ∧ ∀ h', Heap.SameBut ce.locals s''.heap h' → Q .none { s'' with heap := h' }) E s'
  | .error x, _ => ∃ m, s'.heap.Ns ce.locals m ∧ ∀ h' m', h'.Ns ce.locals m' → Heap.SameBut ce.locals s'.heap h' → wpAny M A (passOn "comprehension.variables-let-go" x ce : Sem Value) (fun _ _ => False) E { s' with heap := h' }
theorem comp_freeX {M : Model} {A : Around} {E : Value → Shared → Prop} {s : Shared} {env : Env} {e : Expr} {scope : Scope} {pos : Pos} {newAcc first : Sem Value} {g : Comprehension} {gs : List Comprehension} {cl : List (Str × Addr)} {use : Option (Value → Sem Unit)}
    {Q : Value → Shared → Prop}
    (hcl : clausesOf e = g :: gs) (hs : ∀ x, foldedSetIterable g.iter env x = pure x) (hclos : closureFor scope env = pure cl)
    (hkind : scope.kind = .function) (hnames : ∀ x ∈ scope.names, x.2 = .local → scope.names.lookup x.1 = some .local)
    (h : wpAny M A first (fun x s₁ => wpAny M A (pyIter x) (fun it s₂ => wpAny M A newAcc (fun acc s₃ =>
      wpAny M A (newFunctionEnv scope env.globals cl [] env.qual none .none (some env)) (fun cenv s₄ =>
        codeAny M A (.compStart e 0 it acc { cenv with scope := relabel scope env }) (cpX M A E use Q acc { cenv with scope := relabel scope env }) s₄) E s₃) E s₂) E s₁) E s) :
    wpAny M A (comprehension e scope env pos newAcc false first use) Q E s := by
  unfold comprehension
  rw [hclos, hcl]
  refine wpAny_bind (wpAny_mono h (fun x s₁ h₁ => wpAny_bind (wpAny_standAt (wpAny_bind (wpAny_of_eq (hs x) (wpAny_bind (wpAny_holding (wpAny_mono h₁ (fun it s₂ h₂ =>
    wpAny_standIf (wpAny_bind (wpAny_mono h₂ (fun acc s₃ h₃ => wpAny_bind (wpAny_pure (wpAny_bind (wpAny_mono h₃ (fun cenv s₄ h₄ => ?_) fun _ _ h' => h')))) fun _ _ h' => h')))
      fun _ _ h' => h'))))))) fun _ _ h' => h')
  dsimp only
  have hv : ∀ x ∈ (scope.names.filter fun x => (x.2 == .local || x.2 == .cell) && x.1 != (".0" : Str)).reverse, x.2 = .local →
      Env.kindOf { cenv with scope := relabel scope env } x.1 = some .local := fun x hx hl => lookup_relabel_local (hnames x (List.mem_filter.mp (List.mem_reverse.mp hx)).1 hl)
  have hv' : ∀ x ∈ (scope.names.filter fun x => (x.2 == .local || x.2 == .cell) && x.1 != (".0" : Str)).reverse.drop 1 ++ (scope.names.filter fun x => (x.2 == .local || x.2 == .cell) && x.1 != (".0" : Str)).reverse.take 1,
      x.2 = .local → Env.kindOf { cenv with scope := relabel scope env } x.1 = some .local := fun x hx hl => by
    rcases List.mem_append.mp hx with h1 | h1
    · exact hv x (List.mem_of_mem_drop h1) hl
    · exact hv x (List.mem_of_mem_take h1) hl
  refine wpAny_holding (wpAny_bind (wpAny_attempt (wpAny_holding (wpAny_run (codeAny_mono h₄ fun r s' hr => ?_)))))
  cases r with
  | ok f =>
    cases use with
    | none =>
      obtain ⟨m, hn, hr⟩ := hr
      exact wpAny_bind (wpAny_holding (wpAny_comp_letGo (cenv := { cenv with scope := relabel scope env }) hkind _ s' m hv hn fun h' m' _ hs' => wpAny_pure (hr h' hs')))
    | some u =>
      refine wpAny_bind (wpAny_rule (wpAny_bind (wpAny_holding (wpAny_mono hr (fun _ s'' hr' => ?_) fun _ _ h' => h'))))
      obtain ⟨m, hn, hr'⟩ := hr'
      exact wpAny_bind (wpAny_comp_letGo (cenv := { cenv with scope := relabel scope env }) hkind _ s'' m hv' hn fun h' m' _ hs' => wpAny_pure (hr' h' hs'))
  | error x =>
    have hr' : ∃ m, s'.heap.Ns cenv.locals m ∧ ∀ h' m', h'.Ns cenv.locals m' → Heap.SameBut cenv.locals s'.heap h' → wpAny M A (passOn "comprehension.variables-let-go" x { cenv with scope := relabel scope env } : Sem Value) (fun _ _ => False) E { s' with heap := h' } := by cases use <;> exact hr
    obtain ⟨m, hn, hr⟩ := hr'
    exact wpAny_bind (wpAny_holding (wpAny_comp_letGo (cenv := { cenv with scope := relabel scope env }) hkind _ s' m hv hn fun h' m' hm hs' => wpAny_mono (hr h' m' hm hs') (fun _ _ f => f.elim) fun _ _ y => y))
/-- the block's context, with what is let out of it -/
abbrev blkX (X : Cx) (s : Shared) (H : Hp) (scope : Scope) (cenv : Env) (fp : List Addr) (xe : Value → Shared → Prop) : Cx := { X.blk s H scope cenv fp with xe := xe }
theorem okX_of {X : Cx} {xe : Value → Shared → Prop} (ok : X.Ok) : Cx.Ok { X with xe := xe } :=
  ⟨ok.mod, ok.kind, ok.glob, ok.blt, ok.above, ok.inj, ok.has, ok.cab, ok.hd, ok.frames, ok.stk, ok.exf, ok.bs, ok.bsz, ok.noex, ok.exfs, ok.funs, ok.frf⟩
theorem invX_of {X : Cx} {pins : List (Addr × Obj)} {σ : L2.St} {H : Hp} {s : Shared} {xe : Value → Shared → Prop} (I : Inv X pins σ H s) : Inv { X with xe := xe } pins σ H s :=
  ⟨okX_of I.ok, I.os, I.bare, I.base, I.loc, I.cell, I.free, I.freeC, I.pin, I.hok, I.len⟩
section
variable {M : Model} {A : Around} {E : Value → Shared → Prop} {s : Shared} {Z : Obj → Prop} {base : Heap} {env : Env} {outer : List Env} {L e C : Addr}
open HandSPX in
/-- noted by another frame ahead of ours -/
theorem looks_atZ {Q : Unit → Shared → Prop} (hZ : Steady Z) (hfr : A.frames = some (env :: outer)) (hf : env.frame = some L) (hne : C ≠ L) (hfl : HeldZ base (env :: outer) e Z C s.heap)
    (hQ : ∀ h', HeldZ base (env :: outer) e Z L h' → s.heap.UpToSlots h' → Q () { s with heap := h' }) : wpAny M A (noteFrame (.ref e) env) Q E s := by
  obtain ⟨hkb, hen, hl, oe, vs, T, oT, ts, he, hz, hd, h1, hnT, hTe, hT, hdT, h3⟩ := hfl
  unfold noteFrame
  simp only [hf]
  refine wpAny_bind (wpAny_field he hd h1 ?_)
  rw [if_pos (show (Value.ref T != Value.none) = true from by simp)]
  refine wpAny_bind (wpAny_field hT hdT h3 ?_)
  rw [if_neg (show ¬ ((rawInt C == rawInt L) = true) from by
    intro q
    have q := eq_of_beq q
    unfold rawInt at q
    injection q with q
    exact hne (Int.ofNat.inj q))]
  refine wpAny_bind (wpAny_setField hT hdT (Array.getElem?_eq_some_iff.mp h3).1 ?_)
  have other : ∀ b, b ≠ T → (s.heap.update T (Obj.mapFields (·.setIfInBounds 3 Value.none))).get? b = s.heap.get? b := fun b hb => Heap.get?_update_other _ _ (Ne.symm hb)
  have noRecord : ∀ b o, s.heap.get? b = some o → (∀ vs, o.data ≠ .fields vs) → b ≠ T := fun b o hb hnf q => by
    rw [q, hT] at hb; injection hb with hb; subst hb; exact hnf ts hdT
  refine wpAny_entryZ hZ hfr (hl.of_keeps fun b o hb hnf => ⟨o, (other b (noRecord b o hb hnf)).trans hb, rfl⟩) hf ((other e (Ne.symm hTe)).trans he)
    (fun b o hbo => (other b fun q => by rw [q, hnT] at hbo; cases hbo).trans (hkb b o hbo)) hen hd (Array.getElem?_eq_some_iff.mp h1).1 hz fun h' hN => ?_
  obtain ⟨x1, x2, x3, x4⟩ := hN
  exact hQ h' ⟨x1, hen, x2, x3⟩ fun b o hb hnf => x4 b o ((other b (noRecord b o hb hnf)).trans hb) hnf
theorem ff_base {h base base' : Heap} (k : ∀ b, base.get? b = none → base'.get? b = none) : ∀ {l : List Env}, h.FunFrames base l → h.FunFrames base' l
  | [], _ => trivial
  | _ :: _, ⟨hk, ⟨L', o, hf, hb, ho, hd⟩, hr⟩ => ⟨hk, ⟨L', o, hf, k _ hb, ho, hd⟩, ff_base k hr⟩
theorem note_env {v : Value} {ce env : Env} (h : ce.frame = env.frame) : noteFrame v ce = noteFrame v env := by
  unfold noteFrame PySem.frameOf
  rw [h]
end
/-- what the block lets out, ours takes -/
theorem takes_blk {X : Cx} {W : WX} {pins : List (Addr × Obj)} {s3 : Shared} {σ : L2.St} {H3 : Hp} {ce : Env} {scope : Scope} {fp : List Addr} {D : Value} {use : Option (Value → Sem Unit)} {Qf : Value → Shared → Prop} (hs : X.stack = X.env :: X.outer) (hf : X.env.frame = some X.env.locals) (tk : Takes X W) (I3 : Inv X pins σ H3 s3)
    (f3 : ∀ b ∈ fp, FpOk X pins H3 b) (cL : ce.locals = s3.heap.objs.size) (cF : ce.frame = X.env.frame) :
    Takes (blkX X s3 H3 scope ce fp (notedBy (model X.prog X.w) X.A ce fun e s' => cpX (model X.prog X.w) X.A X.xe use Qf D ce (.error e) s')) (fun cls d _ H => W cls d σ H) := by
  intro u s' xx
  obtain ⟨a, B, sI, pins', σ', H', cls, d, rfl, I', nb, up, sky, na, os, ag, w⟩ := xx
  show wpAny (model X.prog X.w) X.A (noteFrame (.ref a) ce) _ _ s'
  rw [note_env cF]
  have hfr : X.A.frames = some (X.env :: X.outer) := by rw [I3.ok.frames, hs]
  have J : Inv X pins σ H' sI := I3.call' (ch := fp) I'.os I'.base I'.hok I'.bare fun b hb => ⟨(f3 b hb).2.2.2.1, (f3 b hb).2.1, (f3 b hb).2.2.2.2.1, (f3 b hb).2.2.2.2.2⟩
  have nC : H' ce.locals = none := I'.free
  obtain ⟨mC, hnC, _⟩ := I'.loc
  have hnC : sI.heap.Ns ce.locals mC := hnC
  have Cns : ce.locals ∉ frs X.stack := fun hm => by
    obtain ⟨_, o, e, _⟩ := I3.stack.mem hm
    have := Heap.lt_size e
    rw [cL] at this
    exact absurd this (Nat.lt_irrefl _)
  obtain ⟨oC, es, ep, hoC, hdC, _⟩ := id hnC
  have bC : B.get? ce.locals = some oC := nb _ _ hoC Cns
  have aC : a ≠ ce.locals := fun q => by
    have z : B.get? a = none := by
      rcases sky with ⟨_, z, _⟩ | ⟨_, z, _⟩ | ⟨_, z, _⟩ <;> exact z
    rw [q, bC] at z; cases z
  have LC : ce.locals ≠ X.env.locals := by
    rw [cL]
    exact Nat.ne_of_gt I3.lt
  have sky' : Sky B (X.env :: X.outer) a (Zc cls d) ce.locals s'.heap := by rw [← hs]; exact sky
  have main : ∀ h1, HandSPX.HeldZ B (X.env :: X.outer) a (Zc cls d) X.env.locals h1 → s'.heap.UpToSlots h1 → cpX (model X.prog X.w) X.A X.xe use Qf D ce (.error (.ref a)) { s' with heap := h1 } := fun h1 held up1 => by
    show ∃ m, h1.Ns ce.locals m ∧ ∀ h' m', h'.Ns ce.locals m' → Heap.SameBut ce.locals h1 h' → _
    have c1 : h1.get? ce.locals = some oC := held.1 _ _ bC
    refine ⟨mC, hnC.at' fun o e => by rw [hoC] at e; cases e; exact c1, fun h2 m2 hn2 sb => ?_⟩
    obtain ⟨k1, k2, k3, oe, vs, T, oT, ts, he, hz, hd, h1', hnT, hTe, hT, hdT, h3'⟩ := held
    have TC : T ≠ ce.locals := fun q => by rw [q, bC] at hnT; cases hnT
    obtain ⟨Bm, b1, b2⟩ := restrict B (fun b => decide (b ≠ ce.locals))
    have bm : ∀ b o, Bm.get? b = some o → b ≠ ce.locals ∧ B.get? b = some o := fun b o e => by
      by_cases q : b = ce.locals
      · rw [b2 b (by simp [q])] at e; cases e
      · exact ⟨q, by rw [← b1 b (by simp [q])]; exact e⟩
    have bmN : ∀ b, B.get? b = none → Bm.get? b = none := fun b e => by
      cases q : Bm.get? b with
      | none => rfl
      | some o => rw [(bm b o q).2] at e; cases e
    have st2 : Bm.StaysIn h2 := fun b o e => (sb.2 b (bm b o e).1).trans (k1 b o (bm b o e).2)
    have ff2 : h2.FunFrames Bm (X.env :: X.outer) := ff_base bmN (Heap.FunFrames.sameBut sb hn2 k3)
    have tr2 : HandSPX.TracedZ h2 Bm a (Zc cls d) (rawInt X.env.locals) := ⟨oe, vs, T, oT, ts, (sb.2 a aC).trans he, hz, hd, h1', bmN _ hnT, hTe, (sb.2 T TC).trans hT, hdT, h3'⟩
    unfold PySem.passOn
    refine wpAny_bind (wpAny_field ((sb.2 a aC).trans he) hd h1' ?_)
    rw [if_neg (show ¬ ((Value.ref T == Value.none) = true) from by simp)]
    have fin : wpAny (model X.prog X.w) X.A (setFlight (.ref a) ce.frame) (fun _ s4 => wpAny (model X.prog X.w) X.A (throw (.ref a) : Sem Value) (fun _ _ => False) X.xe s4) X.xe { s' with heap := h2 } := by
      rw [cF, hf]
      refine HandSPX.setFlight_anyZ (fr := some X.env.locals) (Z := Zc cls d) st2 ff2 tr2 fun h3 j1 j2 j3 j4 => wpAny_throw (tk _ _ ?_)
      obtain ⟨G, g1, g2⟩ := restrict h3 fun b => (Bm.get? b).isSome || decide (b ∈ frs X.stack)
      have gB : ∀ b o, Bm.get? b = some o → G.get? b = some o := fun b o e => by
        rw [g1 b (by simp [e])]
        exact j1 b o e
      have og : ∀ b o, G.get? b = some o → h3.get? b = some o ∧ ((Bm.get? b).isSome = true ∨ b ∈ frs X.stack) := fun b o e => by
        cases q : ((Bm.get? b).isSome || decide (b ∈ frs X.stack)) with
        | false => rw [g2 b q] at e; cases e
        | true =>
          rw [g1 b q] at e
          exact ⟨e, by simpa [Bool.or_eq_true] using q⟩
      have frm : ∀ b ∈ frs X.stack, ∀ o, sI.heap.get? b = some o → ∃ sl, G.get? b = some { o with slots := sl } := fun b hb o e => by
        obtain ⟨_, o', e', hnf⟩ := J.stack.mem hb
        rw [e] at e'; cases e'
        obtain ⟨sl1, e1⟩ := (up.trans up1) b o e hnf
        have e2 : h2.get? b = some { o with slots := sl1 } := (sb.2 b fun q => Cns (q ▸ hb)).trans e1
        obtain ⟨sl3, e3⟩ := j4 b _ e2 hnf
        exact ⟨sl3, by rw [g1 b (by simp [hb])]; exact e3⟩
      have kp : ∀ b o, sI.heap.get? b = some o → b ∉ frs X.stack → b ≠ ce.locals → G.get? b = some o := fun b o e h1 h2 => gB b o (by rw [b1 b (by simp [h2])]; exact nb b o e h1)
      have J2 : Inv X pins σ H' { sI with heap := G, gens := s'.gens, drawn := s'.drawn, toks := s'.toks } := by
        refine J.call' (ch := [ce.locals]) rfl ⟨fun b o e _ hb hc => kp b o e hb fun q => hc (by simp [q]), fun b o e _ hb _ => frm b hb o e, fun _ _ _ n _ => n, fun b o e hc => ?_, fun _ _ e => e, fun _ _ _ e => e, fun b ps e => ⟨#[], by rw [e]; simp⟩⟩ (fun b o q => ?_) ag fun b hb => ?_
        · by_cases hb : b ∈ frs X.stack
          · obtain ⟨sl, q⟩ := frm b hb o e
            exact ⟨_, q⟩
          · exact ⟨o, kp b o e hb fun q => hc (by simp [q])⟩
        · refine (J.hok b o q).stay (fun c u hc r => kp c u r (fun hm => ?_) fun hm => ?_) (fun _ r => r) fun _ _ r => r
          · have z := J.stkFree c hm
            rcases hc with hc | hc
            · rw [hc, q] at z; cases z
            · rw [hc] at z; cases z
          · have z := nC
            rw [← hm] at z
            rcases hc with hc | hc
            · rw [hc, q] at z; cases z
            · rw [hc] at z; cases z
        · have hb : b = ce.locals := by simpa using hb
          rw [hb, cL]
          obtain ⟨q1, q2, q3, q4, q5, q6⟩ := I3.fpOk (b := s3.heap.objs.size) (H' := H') (Nat.le_refl _) (by rw [← cL]; exact nC)
          exact ⟨q4, q2, q5, q6⟩
      refine ⟨a, Bm, _, pins, σ, H', cls, d, rfl, J2, fun b o e hb => ?_, Heap.UpToSlots.of_keeps fun b o e => (og b o e).1, .inr (.inr ?_), na, os, ag, w⟩
      · obtain ⟨e', h⟩ := og b o e
        rcases h with h | h
        · obtain ⟨o', q⟩ := Option.isSome_iff_exists.mp h
          have z := j1 b o' q
          rw [e'] at z; cases z
          exact q
        · exact absurd h hb
      · rw [hs]
        exact ⟨j1, bmN _ k2, j2, j3⟩
    first
      | exact wpAny_bind (wpAny_pure (wpAny_bind fin))
      | exact wpAny_bind fin
  rcases sky' with ⟨hB, hn, hl, oe, vs, he, hz, hd, h1⟩ | fl | hh
  · exact HandSPX.look_newZ Zc.steady hfr hl hf he hB hn hd h1 hz main
  · exact HandSPX.looks_onZ Zc.steady hfr hf fl main
  · exact looks_atZ Zc.steady hfr hf LC hh main
section
variable {X : Cx}
abbrev tLcX (wi : TI) (g : TG) (tt : TT) (te : WX → TE) (W : WX) (vs : List Nat) : TE := fun σ H Q => tLc wi g tt (te fun cls d _ H' => W cls d σ H') vs σ H Q
theorem lc_coreX {pins : List (Addr × Obj)} {s : Shared} {σ : L2.St} {H : Hp} {Q : VK} {elt tg iter : Expr} {ifs : List Expr} {scope : Scope} {own : List (Str × Nat)} {pos pos' : Pos} {wi : TI} {g : TG} {tt : TT} {te : WX → TE} {W : WX} {use : Option (Value → Sem Unit)} {Qf : Value → Shared → Prop}
    (hc : X.calm = true) (hN : X.N.Nodup) (hst : X.stack = X.env :: X.outer) (hfe : X.env.frame = some X.env.locals) (tk : Takes X W) (I : Inv X pins σ H s) (hi : PI X tg iter wi) (ok : BlkOk X.N X.env.scope scope own)
    (hg : ∀ (s : Shared) (H : Hp) (C : Addr) (cl : List (Str × Addr)) (fp : List Addr) (xe : Value → Shared → Prop), PG (blkX X s H scope (compEnvC scope cl C X.env) fp xe) tg g) (ht : ∀ (s : Shared) (H : Hp) (C : Addr) (cl : List (Str × Addr)) (fp : List Addr) (xe : Value → Shared → Prop), PTs (blkX X s H scope (compEnvC scope cl C X.env) fp xe) ifs tt)
    (he : ∀ (s : Shared) (H : Hp) (C : Addr) (cl : List (Str × Addr)) (fp : List Addr) (xe : Value → Shared → Prop) (W' : WX), Takes (blkX X s H scope (compEnvC scope cl C X.env) fp xe) W' → PE (blkX X s H scope (compEnvC scope cl C X.env) fp xe) elt (te W')) (hs : ∀ x, foldedSetIterable iter X.env x = pure x)
    (h : tLcX wi g tt te W (own.map (·.2)) σ H Q)
    (hRR : ∀ D C s' m H', Inv X pins σ H' s' → Q (.ref D) H' → s'.heap.Ns C m → FpOk X pins H' C → compPost (model X.prog X.w) X.A X.xe use Qf (.ref D) C (.ok .next) s') :
    wpAny (model X.prog X.w) X.A (comprehension (.ListComp elt [⟨tg, iter, ifs, 0⟩] scope pos) scope X.env pos' (newList []) false (eval iter X.env) use) Qf X.xe s := by
  have hfree : ∀ y ∈ scope.names, y.2 = .free → ∃ c, X.env.cells.lookup y.1 = some c := fun y hy e => by
    rcases ok.free y hy e with k | k
    · exact I.ok.has _ (.inl k)
    · exact I.ok.has _ (.inr k)
  refine comp_freeX (use := use) rfl hs (closure_ok hfree) ok.kind (fun y hy e => by rw [ok.uniq y hy, e])
    (thn (hi.run pins s σ H _ I h) fun xv s1 hx => thn hx fun itv s2 h2 => ?_)
  obtain ⟨it, fp, tn, J, H2, e, I2, T, st2, f2, q⟩ := h2
  subst e
  refine wpAny_newObj_type (newEnv_comp ?_) (by show 0 ≤ sizeLine; decide)
  generalize hD : s2.heap.objs.size = D
  have hDn : H2 D = none := I2.hok.fresh (Nat.le_of_eq hD)
  obtain ⟨W, ⟨m0, w0⟩, turn⟩ := q D hDn
  -- the new list
  generalize hs3 : ({ s2 with heap := s2.heap.push { cls := .type "list", data := .seq ([] : List Value).toArray } } : Shared) = s3
  have I3 : Inv X pins σ (upd H2 D (.lst [])) s3 := by
    rw [← hs3]
    refine I2.laid (t' := s2.toks) (fun b o e => Heap.get?_push_of_some _ e) (Nat.le_of_eq hD) ⟨Nat.zero_le _, [], 0, .nil, ?_⟩
    rw [← hD]
    exact Heap.get?_push_size _ rfl
  have h3 : s3.heap = s2.heap.push { cls := .type "list", data := .seq ([] : List Value).toArray } := by rw [← hs3]
  have sz : ∀ b ∈ fp, b < s2.heap.objs.size := fun b hb => by
    obtain ⟨o, e, _⟩ := T.obj _ _ st2 b hb
    exact Heap.lt_size e
  have f3 : ∀ b ∈ fp, FpOk X pins (upd H2 D (.lst [])) b ∧ b < s3.heap.objs.size := fun b hb => by
    have hlt := sz b hb
    refine ⟨⟨?_, (f2 b hb).2⟩, by rw [h3, Heap.size_push]; exact Nat.lt_succ_of_lt hlt⟩
    rw [upd_ne (by rw [← hD]; exact Nat.ne_of_lt hlt)]
    exact (f2 b hb).1
  have st3 : tn 0 s3.heap := T.keep _ _ _ st2 fun b _ o e => by rw [h3]; exact Heap.get?_push_of_some _ e
  have I4 := block_start I3 ok hN f3
  have I4 := invX_of (xe := notedBy (model X.prog X.w) X.A (compEnvC scope (cellsFrom (s3.heap.objs.size + 1) scope.names (cloFrom X.env.cells scope.names [])) s3.heap.objs.size X.env) fun e s' => cpX (model X.prog X.w) X.A X.xe use Qf (.ref D) (compEnvC scope (cellsFrom (s3.heap.objs.size + 1) scope.names (cloFrom X.env.cells scope.names [])) s3.heap.objs.size X.env) (.error e) s') I4
  have tkB := takes_blk (D := .ref D) (use := use) (Qf := Qf) (scope := scope) (ce := compEnvC scope (cellsFrom (s3.heap.objs.size + 1) scope.names (cloFrom X.env.cells scope.names [])) s3.heap.objs.size X.env) hst hfe tk I3 (fun b hb => (f3 b hb).1) rfl rfl
  have pg := hg s3 (upd H2 D (.lst [])) s3.heap.objs.size (cellsFrom (s3.heap.objs.size + 1) scope.names (cloFrom X.env.cells scope.names [])) fp (notedBy (model X.prog X.w) X.A (compEnvC scope (cellsFrom (s3.heap.objs.size + 1) scope.names (cloFrom X.env.cells scope.names [])) s3.heap.objs.size X.env) fun e s' => cpX (model X.prog X.w) X.A X.xe use Qf (.ref D) (compEnvC scope (cellsFrom (s3.heap.objs.size + 1) scope.names (cloFrom X.env.cells scope.names [])) s3.heap.objs.size X.env) (.error e) s')
  have pt := ht s3 (upd H2 D (.lst [])) s3.heap.objs.size (cellsFrom (s3.heap.objs.size + 1) scope.names (cloFrom X.env.cells scope.names [])) fp (notedBy (model X.prog X.w) X.A (compEnvC scope (cellsFrom (s3.heap.objs.size + 1) scope.names (cloFrom X.env.cells scope.names [])) s3.heap.objs.size X.env) fun e s' => cpX (model X.prog X.w) X.A X.xe use Qf (.ref D) (compEnvC scope (cellsFrom (s3.heap.objs.size + 1) scope.names (cloFrom X.env.cells scope.names [])) s3.heap.objs.size X.env) (.error e) s')
  have pe := he s3 (upd H2 D (.lst [])) s3.heap.objs.size (cellsFrom (s3.heap.objs.size + 1) scope.names (cloFrom X.env.cells scope.names [])) fp _ _ tkB
  show codeAny _ _ (.compStart (.ListComp elt [⟨tg, iter, ifs, 0⟩] scope pos) 0 (.ref it) (.ref D) (compEnvC scope (cellsFrom (s3.heap.objs.size + 1) scope.names (cloFrom X.env.cells scope.names [])) s3.heap.objs.size X.env)) (cpX (model X.prog X.w) X.A X.xe use Qf (.ref D) (compEnvC scope (cellsFrom (s3.heap.objs.size + 1) scope.names (cloFrom X.env.cells scope.names [])) s3.heap.objs.size X.env)) { s3 with heap := pushCells (s3.heap.push { cls := .type "dict", data := .dict #[] }) scope.names }
  have nfp : ∀ b ∈ fp, (upd H2 D (.lst [])) b = none := fun b hb => (f3 b hb).1.1
  generalize hce : compEnvC scope (cellsFrom (s3.heap.objs.size + 1) scope.names (cloFrom X.env.cells scope.names [])) s3.heap.objs.size X.env = ce at I4 tkB pg pt pe ⊢
  clear tkB
  generalize hXE : (notedBy (model X.prog X.w) X.A ce fun e s' => cpX (model X.prog X.w) X.A X.xe use Qf (.ref D) ce (.error e) s') = XEE at I4 pg pt pe
  have cL : ce.locals = s3.heap.objs.size := by subst hce; rfl
  generalize hH3 : upd H2 D (.lst []) = H3 at I3 I4 pg pt pe w0 nfp f3
  generalize hs4 : ({ s3 with heap := pushCells (s3.heap.push { cls := .type "dict", data := .dict #[] }) scope.names } : Shared) = s4 at I4 ⊢
  have st4 : tn 0 s4.heap := T.keep _ _ _ st3 fun b _ o e => by rw [← hs4]; exact pushCells_keeps _ _ _ _ (Heap.get?_push_of_some _ e)
  have stat : ∀ {σ' : L2.St} {H' : Hp} {s' : Shared}, Inv (blkX X s3 H3 scope ce fp XEE) [] σ' H' s' → (∀ b ∈ fp, H' b = none) → ∀ b ∈ fp, FpOk (blkX X s3 H3 scope ce fp XEE) [] H' b := fun {σ' H' s'} I' hn b hb =>
    ⟨hn b hb, (I'.ok.exf b hb).1, I'.ok.exfs b hb, .inl hb, fun x c e => (I'.ok.exf b hb).2 x c e, fun p hp => absurd (show p ∈ ([] : List (Addr × Obj)) ++ [] from hp) (by simp)⟩
  have loop : codeAny (model X.prog X.w) X.A (.compLoop (.ListComp elt [⟨tg, iter, ifs, 0⟩] scope pos) 0 (.ref it) (.ref D) ce) (cpX (model X.prog X.w) X.A X.xe use Qf (.ref D) ce) s4 := by
    refine compLoop_any (fun n s' => ∃ i H', Inv (blkX X s3 H3 scope ce fp XEE) [] (wipe σ (own.map (·.2))) H' s' ∧ tn i s'.heap ∧ (∀ b ∈ fp, H' b = none) ∧ W i n H') ?_ m0 ⟨0, H3, I4, st4, nfp, w0⟩
    rintro n s5 ⟨i, H5, I5, st5, n5, w5⟩
    rcases turn i n H5 w5 with ⟨stop, qq⟩ | ⟨go, Nx, hNx, step⟩
    · have td := T.done (blkX X s3 H3 scope ce fp XEE) rfl rfl rfl hc i [] s5 _ H5 (fun _ _ => False) I5 (stat I5 n5) st5 stop
      refine thnF td fun r s6 ⟨hr, I6⟩ => ?_
      subst hr
      -- back in the def's context
      have I7 : Inv X pins σ H5 s6 := I3.call' (ch := fp) I6.os I6.base I6.hok I6.bare fun b hb => ⟨(f3 b hb).1.2.2.2.1, (f3 b hb).1.2.1, (f3 b hb).1.2.2.2.2.1, (f3 b hb).1.2.2.2.2.2⟩
      have nC : H5 s3.heap.objs.size = none := by
        have z : H5 ce.locals = none := I6.free
        rw [cL] at z
        exact z
      obtain ⟨m, hn, _⟩ := I6.loc
      have hn : s6.heap.Ns ce.locals m := hn
      rw [cL] at hn
      have z := hRR D s3.heap.objs.size s6 m H5 I7 qq hn (I3.fpOk (Nat.le_refl _) nC)
      rw [← cL] at z
      cases use with
      | none => exact z
      | some u => exact z
    · have ti := T.item (blkX X s3 H3 scope ce fp XEE) rfl rfl rfl hc i [] s5 _ H5 (fun _ _ => False) I5 (stat I5 n5) st5 go
      refine thnF ti fun r s6 ⟨u, hr, h6⟩ => ?_
      subst hr
      refine thnF h6 fun _ s7 ⟨x, H7, I7, r7, y7, st7, n7⟩ => ?_
      have I7' := I7.pinned (stat I7 n7) (T.obj _ _ st7)
      rw [hXE]
      refine thn (pg.run _ s7 _ H7 x u _ I7' r7 (step x H7 y7)) fun _ s8 ⟨σ8, H8, I8, hw8, q8⟩ => ?_
      refine thn (pt.run _ s8 σ8 H8 _ I8 q8) fun b s9 ⟨H9, I9, q9⟩ => ?_
      -- the turn's end
      have fin : ∀ {s' : Shared} {H' : Hp}, Inv (blkX X s3 H3 scope ce fp XEE) ([] ++ pinsAt fp s7.heap) σ8 H' s' → Nx H' → ∃ m, m < n ∧ ∃ i H', Inv (blkX X s3 H3 scope ce fp XEE) [] (wipe σ (own.map (·.2))) H' s' ∧ tn i s'.heap ∧ (∀ b ∈ fp, H' b = none) ∧ W i m H' := fun {s' H'} I' nx => by
        obtain ⟨m', hm, w'⟩ := hNx H' nx
        have pin' : ∀ b ∈ fp, ∀ o, s7.heap.get? b = some o → s'.heap.get? b = some o ∧ H' b = none := fun b hb o e =>
          let z := I'.pin (b, o) (List.mem_append_right _ (List.mem_append_right _ (mem_pinsAt hb e)))
          ⟨z.1, z.2.1⟩
        have hl : (wipe σ (own.map (·.2))).length = σ8.length := by rw [← hw8, wipe_length]
        refine ⟨m', hm, i + 1, H', (I'.unpinned (pins := [])).weak hl (fun j v e => ?_), T.keep _ _ _ st7 fun b hb o e => (pin' b hb o e).1, fun b hb => ?_, w'⟩
        · rw [← hw8] at e
          exact (wipe_some e).1
        · obtain ⟨o, e, _⟩ := T.obj _ _ st7 b hb
          exact (pin' b hb o e).2
      cases b with
      | false =>
        simp only [Bool.false_eq_true, if_false] at q9 ⊢
        exact fin I9 q9
      | true =>
        simp only [if_true] at q9 ⊢
        refine thn (pe.run _ s9 σ8 H9 _ I9 q9) fun z s10 ⟨yv, H10, I10, r10, acc, hD10, hz10, nx⟩ => ?_
        exact app_ok (X := blkX X s3 H3 scope ce fp XEE) I10 hD10 hz10 r10 fun s11 I11 => fin I11 nx
  exact codeAny_compStart_list loop (T.self X.A 0 _ _ _ st4 loop)
/-- as a value -/
theorem pe_lcX {elt tg iter : Expr} {ifs : List Expr} {scope : Scope} {own : List (Str × Nat)} {pos : Pos} {wi : TI} {g : TG} {tt : TT} {te : WX → TE} {W : WX} (hc : X.calm = true) (hN : X.N.Nodup) (hst : X.stack = X.env :: X.outer) (hfe : X.env.frame = some X.env.locals) (tk : Takes X W) (hi : PI X tg iter wi) (ok : BlkOk X.N X.env.scope scope own)
    (hg : ∀ (s : Shared) (H : Hp) (C : Addr) (cl : List (Str × Addr)) (fp : List Addr) (xe : Value → Shared → Prop), PG (blkX X s H scope (compEnvC scope cl C X.env) fp xe) tg g) (ht : ∀ (s : Shared) (H : Hp) (C : Addr) (cl : List (Str × Addr)) (fp : List Addr) (xe : Value → Shared → Prop), PTs (blkX X s H scope (compEnvC scope cl C X.env) fp xe) ifs tt)
    (he : ∀ (s : Shared) (H : Hp) (C : Addr) (cl : List (Str × Addr)) (fp : List Addr) (xe : Value → Shared → Prop) (W' : WX), Takes (blkX X s H scope (compEnvC scope cl C X.env) fp xe) W' → PE (blkX X s H scope (compEnvC scope cl C X.env) fp xe) elt (te W')) (hs : ∀ x, foldedSetIterable iter X.env x = pure x := by intro _; rfl) :
    PE X (.ListComp elt [⟨tg, iter, ifs, 0⟩] scope pos) (tLcX wi g tt te W (own.map (·.2))) := by
  refine ⟨fun pins s σ H Q I h => ?_⟩
  rw [eval_ListComp]
  refine lc_coreX hc hN hst hfe tk I hi ok hg ht he hs h fun D C s' m H' I' q hn f => ⟨m, hn, fun h'' sb => ?_⟩
  obtain ⟨f0, f1, f2, f3, f4, f5⟩ := f
  exact ⟨.ref D, H', I'.turned (t' := s'.toks) (fun b o hb e => (sb.2 b hb).trans e) f0 f1 f3 f4 f5, rfl, q⟩
/-- name = [..] on one line, the name a local -/
theorem ps_setLcX {i : Nat} {y : Str} {py : Pos} {elt tg iter : Expr} {ifs : List Expr} {scope : Scope} {own : List (Str × Nat)} {pos spos : Pos} {wi : TI} {g : TG} {tt : TT} {te : WX → TE} {W : WX} (hc : X.calm = true) (hN : X.N.Nodup) (hst : X.stack = X.env :: X.outer) (hfe : X.env.frame = some X.env.locals) (tk : Takes X W) (hy : X.N[i]? = some y) (hyl : X.env.scope.names.lookup y = some .local)
    (hsw : swapsWith (.ListComp elt [⟨tg, iter, ifs, 0⟩] scope pos) (some (.Name y py)) spos.line X.env = pure true) (hi : PI X tg iter wi) (ok : BlkOk X.N X.env.scope scope own)
    (hg : ∀ (s : Shared) (H : Hp) (C : Addr) (cl : List (Str × Addr)) (fp : List Addr) (xe : Value → Shared → Prop), PG (blkX X s H scope (compEnvC scope cl C X.env) fp xe) tg g) (ht : ∀ (s : Shared) (H : Hp) (C : Addr) (cl : List (Str × Addr)) (fp : List Addr) (xe : Value → Shared → Prop), PTs (blkX X s H scope (compEnvC scope cl C X.env) fp xe) ifs tt)
    (he : ∀ (s : Shared) (H : Hp) (C : Addr) (cl : List (Str × Addr)) (fp : List Addr) (xe : Value → Shared → Prop) (W' : WX), Takes (blkX X s H scope (compEnvC scope cl C X.env) fp xe) W' → PE (blkX X s H scope (compEnvC scope cl C X.env) fp xe) elt (te W')) (hs : ∀ x, foldedSetIterable iter X.env x = pure x := by intro _; rfl) :
    PS X (.Assign [.Name y py] (.ListComp elt [⟨tg, iter, ifs, 0⟩] scope pos) spos) (tAsg (tLcX wi g tt te W (own.map (·.2))) (gName i)) := by
  refine ⟨fun pins s σ H D I h => ?_⟩
  rw [exec_Assign_Name_used _ _ _ _ hsw]
  refine wpAny_bind (wpAny_standAt (wpAny_bind ?_))
  show wpAny _ X.A (do let _ ← comprehension (.ListComp elt [⟨tg, iter, ifs, 0⟩] scope pos) scope X.env (firstIterPos [⟨tg, iter, ifs, 0⟩] pos) (newList []) false (eval iter X.env) (some (assign (.Name y py) X.env))) _ _ s
  have h : tLcX wi g tt te W (own.map (·.2)) σ H (fun x H1 => gName i x σ H1 D.nx) := h
  refine wpAny_bind (thn (lc_coreX (Qf := fun _ s' => SP X pins D .next s') hc hN hst hfe tk I hi ok hg ht he hs h fun L C s' m H' I' q hn f => ?_) fun _ s' hq => wpAny_pure (wpAny_pure hq))
  show wpAny _ _ (assign (.Name y py) X.env (.ref L)) _ _ _
  refine wpAny_assign_Name (store_ok2 (v := V.ref L) I' hN hy (.inl hyl) rfl (fun s2 I2 ⟨a, sb, ha⟩ => ?_) (.inr hyl))
  obtain ⟨f0, f1, f2, f3, f4, f5⟩ := f
  have haC : C ≠ a := by
    rcases ha with z | z
    · rw [z]; exact f1
    · exact fun e => f4 y a z e.symm
  refine ⟨m, hn.sameBut sb haC, fun h3 sb3 => ?_⟩
  exact ⟨_, H', I2.turned (t' := s2.toks) (fun b o hb e => (sb3.2 b hb).trans e) f0 f1 f3 f4 f5, q⟩
end

/-! ### the same for exceptions whose context is None -/
section
variable {M : Model} {A : Around} {E : Value → Shared → Prop} {s : Shared} {Z : Obj → Prop} {base : Heap} {env : Env} {outer : List Env} {L e C : Addr}
open HandSPX in
/-- noted by another frame ahead of ours -/
theorem looks_atZN {Q : Unit → Shared → Prop} (hZ : PXN.Steady1 Z) (hfr : A.frames = some (env :: outer)) (hf : env.frame = some L) (hne : C ≠ L) (hfl : HeldZ base (env :: outer) e Z C s.heap)
    (hQ : ∀ h', HeldZ base (env :: outer) e Z L h' → s.heap.UpToSlots h' → Q () { s with heap := h' }) : wpAny M A (noteFrame (.ref e) env) Q E s := by
  obtain ⟨hkb, hen, hl, oe, vs, T, oT, ts, he, hz, hd, h1, hnT, hTe, hT, hdT, h3⟩ := hfl
  unfold noteFrame
  simp only [hf]
  refine wpAny_bind (wpAny_field he hd h1 ?_)
  rw [if_pos (show (Value.ref T != Value.none) = true from by simp)]
  refine wpAny_bind (wpAny_field hT hdT h3 ?_)
  rw [if_neg (show ¬ ((rawInt C == rawInt L) = true) from by
    intro q
    have q := eq_of_beq q
    unfold rawInt at q
    injection q with q
    exact hne (Int.ofNat.inj q))]
  refine wpAny_bind (wpAny_setField hT hdT (Array.getElem?_eq_some_iff.mp h3).1 ?_)
  have other : ∀ b, b ≠ T → (s.heap.update T (Obj.mapFields (·.setIfInBounds 3 Value.none))).get? b = s.heap.get? b := fun b hb => Heap.get?_update_other _ _ (Ne.symm hb)
  have noRecord : ∀ b o, s.heap.get? b = some o → (∀ vs, o.data ≠ .fields vs) → b ≠ T := fun b o hb hnf q => by
    rw [q, hT] at hb; injection hb with hb; subst hb; exact hnf ts hdT
  refine PXN.wpAny_entryZ hZ hfr (hl.of_keeps fun b o hb hnf => ⟨o, (other b (noRecord b o hb hnf)).trans hb, rfl⟩) hf ((other e (Ne.symm hTe)).trans he)
    (fun b o hbo => (other b fun q => by rw [q, hnT] at hbo; cases hbo).trans (hkb b o hbo)) hen hd (Array.getElem?_eq_some_iff.mp h1).1 hz fun h' hN => ?_
  obtain ⟨x1, x2, x3, x4⟩ := hN
  exact hQ h' ⟨x1, hen, x2, x3⟩ fun b o hb hnf => x4 b o ((other b (noRecord b o hb hnf)).trans hb) hnf
end
/-- what the block lets out, ours takes -/
theorem takes_blkN {X : Cx} {W : WX} {pins : List (Addr × Obj)} {s3 : Shared} {σ : L2.St} {H3 : Hp} {ce : Env} {scope : Scope} {fp : List Addr} {D : Value} {use : Option (Value → Sem Unit)} {Qf : Value → Shared → Prop} (hs : X.stack = X.env :: X.outer) (hf : X.env.frame = some X.env.locals) (tk : L2N.Takes X W) (I3 : Inv X pins σ H3 s3)
    (f3 : ∀ b ∈ fp, FpOk X pins H3 b) (cL : ce.locals = s3.heap.objs.size) (cF : ce.frame = X.env.frame) :
    L2N.Takes (blkX X s3 H3 scope ce fp (notedBy (model X.prog X.w) X.A ce fun e s' => cpX (model X.prog X.w) X.A X.xe use Qf D ce (.error e) s')) (fun cls d _ H => W cls d σ H) := by
  intro u s' xx
  obtain ⟨a, B, sI, pins', σ', H', cls, d, rfl, I', nb, up, sky, na, os, ag, w⟩ := xx
  show wpAny (model X.prog X.w) X.A (noteFrame (.ref a) ce) _ _ s'
  rw [note_env cF]
  have hfr : X.A.frames = some (X.env :: X.outer) := by rw [I3.ok.frames, hs]
  have J : Inv X pins σ H' sI := I3.call' (ch := fp) I'.os I'.base I'.hok I'.bare fun b hb => ⟨(f3 b hb).2.2.2.1, (f3 b hb).2.1, (f3 b hb).2.2.2.2.1, (f3 b hb).2.2.2.2.2⟩
  have nC : H' ce.locals = none := I'.free
  obtain ⟨mC, hnC, _⟩ := I'.loc
  have hnC : sI.heap.Ns ce.locals mC := hnC
  have Cns : ce.locals ∉ frs X.stack := fun hm => by
    obtain ⟨_, o, e, _⟩ := I3.stack.mem hm
    have := Heap.lt_size e
    rw [cL] at this
    exact absurd this (Nat.lt_irrefl _)
  obtain ⟨oC, es, ep, hoC, hdC, _⟩ := id hnC
  have bC : B.get? ce.locals = some oC := nb _ _ hoC Cns
  have aC : a ≠ ce.locals := fun q => by
    have z : B.get? a = none := by
      rcases sky with ⟨_, z, _⟩ | ⟨_, z, _⟩ | ⟨_, z, _⟩ <;> exact z
    rw [q, bC] at z; cases z
  have LC : ce.locals ≠ X.env.locals := by
    rw [cL]
    exact Nat.ne_of_gt I3.lt
  have sky' : Sky B (X.env :: X.outer) a (L2N.Zn cls d) ce.locals s'.heap := by rw [← hs]; exact sky
  have main : ∀ h1, HandSPX.HeldZ B (X.env :: X.outer) a (L2N.Zn cls d) X.env.locals h1 → s'.heap.UpToSlots h1 → cpX (model X.prog X.w) X.A X.xe use Qf D ce (.error (.ref a)) { s' with heap := h1 } := fun h1 held up1 => by
    show ∃ m, h1.Ns ce.locals m ∧ ∀ h' m', h'.Ns ce.locals m' → Heap.SameBut ce.locals h1 h' → _
    have c1 : h1.get? ce.locals = some oC := held.1 _ _ bC
    refine ⟨mC, hnC.at' fun o e => by rw [hoC] at e; cases e; exact c1, fun h2 m2 hn2 sb => ?_⟩
    obtain ⟨k1, k2, k3, oe, vs, T, oT, ts, he, hz, hd, h1', hnT, hTe, hT, hdT, h3'⟩ := held
    have TC : T ≠ ce.locals := fun q => by rw [q, bC] at hnT; cases hnT
    obtain ⟨Bm, b1, b2⟩ := restrict B (fun b => decide (b ≠ ce.locals))
    have bm : ∀ b o, Bm.get? b = some o → b ≠ ce.locals ∧ B.get? b = some o := fun b o e => by
      by_cases q : b = ce.locals
      · rw [b2 b (by simp [q])] at e; cases e
      · exact ⟨q, by rw [← b1 b (by simp [q])]; exact e⟩
    have bmN : ∀ b, B.get? b = none → Bm.get? b = none := fun b e => by
      cases q : Bm.get? b with
      | none => rfl
      | some o => rw [(bm b o q).2] at e; cases e
    have st2 : Bm.StaysIn h2 := fun b o e => (sb.2 b (bm b o e).1).trans (k1 b o (bm b o e).2)
    have ff2 : h2.FunFrames Bm (X.env :: X.outer) := ff_base bmN (Heap.FunFrames.sameBut sb hn2 k3)
    have tr2 : HandSPX.TracedZ h2 Bm a (L2N.Zn cls d) (rawInt X.env.locals) := ⟨oe, vs, T, oT, ts, (sb.2 a aC).trans he, hz, hd, h1', bmN _ hnT, hTe, (sb.2 T TC).trans hT, hdT, h3'⟩
    unfold PySem.passOn
    refine wpAny_bind (wpAny_field ((sb.2 a aC).trans he) hd h1' ?_)
    rw [if_neg (show ¬ ((Value.ref T == Value.none) = true) from by simp)]
    have fin : wpAny (model X.prog X.w) X.A (setFlight (.ref a) ce.frame) (fun _ s4 => wpAny (model X.prog X.w) X.A (throw (.ref a) : Sem Value) (fun _ _ => False) X.xe s4) X.xe { s' with heap := h2 } := by
      rw [cF, hf]
      refine HandSPX.setFlight_anyZ (fr := some X.env.locals) (Z := L2N.Zn cls d) st2 ff2 tr2 fun h3 j1 j2 j3 j4 => wpAny_throw (tk _ _ ?_)
      obtain ⟨G, g1, g2⟩ := restrict h3 fun b => (Bm.get? b).isSome || decide (b ∈ frs X.stack)
      have gB : ∀ b o, Bm.get? b = some o → G.get? b = some o := fun b o e => by
        rw [g1 b (by simp [e])]
        exact j1 b o e
      have og : ∀ b o, G.get? b = some o → h3.get? b = some o ∧ ((Bm.get? b).isSome = true ∨ b ∈ frs X.stack) := fun b o e => by
        cases q : ((Bm.get? b).isSome || decide (b ∈ frs X.stack)) with
        | false => rw [g2 b q] at e; cases e
        | true =>
          rw [g1 b q] at e
          exact ⟨e, by simpa [Bool.or_eq_true] using q⟩
      have frm : ∀ b ∈ frs X.stack, ∀ o, sI.heap.get? b = some o → ∃ sl, G.get? b = some { o with slots := sl } := fun b hb o e => by
        obtain ⟨_, o', e', hnf⟩ := J.stack.mem hb
        rw [e] at e'; cases e'
        obtain ⟨sl1, e1⟩ := (up.trans up1) b o e hnf
        have e2 : h2.get? b = some { o with slots := sl1 } := (sb.2 b fun q => Cns (q ▸ hb)).trans e1
        obtain ⟨sl3, e3⟩ := j4 b _ e2 hnf
        exact ⟨sl3, by rw [g1 b (by simp [hb])]; exact e3⟩
      have kp : ∀ b o, sI.heap.get? b = some o → b ∉ frs X.stack → b ≠ ce.locals → G.get? b = some o := fun b o e h1 h2 => gB b o (by rw [b1 b (by simp [h2])]; exact nb b o e h1)
      have J2 : Inv X pins σ H' { sI with heap := G, gens := s'.gens, drawn := s'.drawn, toks := s'.toks } := by
        refine J.call' (ch := [ce.locals]) rfl ⟨fun b o e _ hb hc => kp b o e hb fun q => hc (by simp [q]), fun b o e _ hb _ => frm b hb o e, fun _ _ _ n _ => n, fun b o e hc => ?_, fun _ _ e => e, fun _ _ _ e => e, fun b ps e => ⟨#[], by rw [e]; simp⟩⟩ (fun b o q => ?_) ag fun b hb => ?_
        · by_cases hb : b ∈ frs X.stack
          · obtain ⟨sl, q⟩ := frm b hb o e
            exact ⟨_, q⟩
          · exact ⟨o, kp b o e hb fun q => hc (by simp [q])⟩
        · refine (J.hok b o q).stay (fun c u hc r => kp c u r (fun hm => ?_) fun hm => ?_) (fun _ r => r) fun _ _ r => r
          · have z := J.stkFree c hm
            rcases hc with hc | hc
            · rw [hc, q] at z; cases z
            · rw [hc] at z; cases z
          · have z := nC
            rw [← hm] at z
            rcases hc with hc | hc
            · rw [hc, q] at z; cases z
            · rw [hc] at z; cases z
        · have hb : b = ce.locals := by simpa using hb
          rw [hb, cL]
          obtain ⟨q1, q2, q3, q4, q5, q6⟩ := I3.fpOk (b := s3.heap.objs.size) (H' := H') (Nat.le_refl _) (by rw [← cL]; exact nC)
          exact ⟨q4, q2, q5, q6⟩
      refine ⟨a, Bm, _, pins, σ, H', cls, d, rfl, J2, fun b o e hb => ?_, Heap.UpToSlots.of_keeps fun b o e => (og b o e).1, .inr (.inr ?_), na, os, ag, w⟩
      · obtain ⟨e', h⟩ := og b o e
        rcases h with h | h
        · obtain ⟨o', q⟩ := Option.isSome_iff_exists.mp h
          have z := j1 b o' q
          rw [e'] at z; cases z
          exact q
        · exact absurd h hb
      · rw [hs]
        exact ⟨j1, bmN _ k2, j2, j3⟩
    first
      | exact wpAny_bind (wpAny_pure (wpAny_bind fin))
      | exact wpAny_bind fin
  rcases sky' with ⟨hB, hn, hl, oe, vs, he, hz, hd, h1⟩ | fl | hh
  · exact PXN.look_newZ L2N.Zn.steady hfr hl hf he hB hn hd h1 hz main
  · exact PXN.looks_onZ L2N.Zn.steady hfr hf fl main
  · exact looks_atZN L2N.Zn.steady hfr hf LC hh main
section
variable {X : Cx}
theorem lc_coreXN {pins : List (Addr × Obj)} {s : Shared} {σ : L2.St} {H : Hp} {Q : VK} {elt tg iter : Expr} {ifs : List Expr} {scope : Scope} {own : List (Str × Nat)} {pos pos' : Pos} {wi : TI} {g : TG} {tt : TT} {te : WX → TE} {W : WX} {use : Option (Value → Sem Unit)} {Qf : Value → Shared → Prop}
    (hc : X.calm = true) (hN : X.N.Nodup) (hst : X.stack = X.env :: X.outer) (hfe : X.env.frame = some X.env.locals) (tk : L2N.Takes X W) (I : Inv X pins σ H s) (hi : PI X tg iter wi) (ok : BlkOk X.N X.env.scope scope own)
    (hg : ∀ (s : Shared) (H : Hp) (C : Addr) (cl : List (Str × Addr)) (fp : List Addr) (xe : Value → Shared → Prop), PG (blkX X s H scope (compEnvC scope cl C X.env) fp xe) tg g) (ht : ∀ (s : Shared) (H : Hp) (C : Addr) (cl : List (Str × Addr)) (fp : List Addr) (xe : Value → Shared → Prop), PTs (blkX X s H scope (compEnvC scope cl C X.env) fp xe) ifs tt)
    (he : ∀ (s : Shared) (H : Hp) (C : Addr) (cl : List (Str × Addr)) (fp : List Addr) (xe : Value → Shared → Prop) (W' : WX), L2N.Takes (blkX X s H scope (compEnvC scope cl C X.env) fp xe) W' → PE (blkX X s H scope (compEnvC scope cl C X.env) fp xe) elt (te W')) (hs : ∀ x, foldedSetIterable iter X.env x = pure x)
    (h : tLcX wi g tt te W (own.map (·.2)) σ H Q)
    (hRR : ∀ D C s' m H', Inv X pins σ H' s' → Q (.ref D) H' → s'.heap.Ns C m → FpOk X pins H' C → compPost (model X.prog X.w) X.A X.xe use Qf (.ref D) C (.ok .next) s') :
    wpAny (model X.prog X.w) X.A (comprehension (.ListComp elt [⟨tg, iter, ifs, 0⟩] scope pos) scope X.env pos' (newList []) false (eval iter X.env) use) Qf X.xe s := by
  have hfree : ∀ y ∈ scope.names, y.2 = .free → ∃ c, X.env.cells.lookup y.1 = some c := fun y hy e => by
    rcases ok.free y hy e with k | k
    · exact I.ok.has _ (.inl k)
    · exact I.ok.has _ (.inr k)
  refine comp_freeX (use := use) rfl hs (closure_ok hfree) ok.kind (fun y hy e => by rw [ok.uniq y hy, e])
    (thn (hi.run pins s σ H _ I h) fun xv s1 hx => thn hx fun itv s2 h2 => ?_)
  obtain ⟨it, fp, tn, J, H2, e, I2, T, st2, f2, q⟩ := h2
  subst e
  refine wpAny_newObj_type (newEnv_comp ?_) (by show 0 ≤ sizeLine; decide)
  generalize hD : s2.heap.objs.size = D
  have hDn : H2 D = none := I2.hok.fresh (Nat.le_of_eq hD)
  obtain ⟨W, ⟨m0, w0⟩, turn⟩ := q D hDn
  -- the new list
  generalize hs3 : ({ s2 with heap := s2.heap.push { cls := .type "list", data := .seq ([] : List Value).toArray } } : Shared) = s3
  have I3 : Inv X pins σ (upd H2 D (.lst [])) s3 := by
    rw [← hs3]
    refine I2.laid (t' := s2.toks) (fun b o e => Heap.get?_push_of_some _ e) (Nat.le_of_eq hD) ⟨Nat.zero_le _, [], 0, .nil, ?_⟩
    rw [← hD]
    exact Heap.get?_push_size _ rfl
  have h3 : s3.heap = s2.heap.push { cls := .type "list", data := .seq ([] : List Value).toArray } := by rw [← hs3]
  have sz : ∀ b ∈ fp, b < s2.heap.objs.size := fun b hb => by
    obtain ⟨o, e, _⟩ := T.obj _ _ st2 b hb
    exact Heap.lt_size e
  have f3 : ∀ b ∈ fp, FpOk X pins (upd H2 D (.lst [])) b ∧ b < s3.heap.objs.size := fun b hb => by
    have hlt := sz b hb
    refine ⟨⟨?_, (f2 b hb).2⟩, by rw [h3, Heap.size_push]; exact Nat.lt_succ_of_lt hlt⟩
    rw [upd_ne (by rw [← hD]; exact Nat.ne_of_lt hlt)]
    exact (f2 b hb).1
  have st3 : tn 0 s3.heap := T.keep _ _ _ st2 fun b _ o e => by rw [h3]; exact Heap.get?_push_of_some _ e
  have I4 := block_start I3 ok hN f3
  have I4 := invX_of (xe := notedBy (model X.prog X.w) X.A (compEnvC scope (cellsFrom (s3.heap.objs.size + 1) scope.names (cloFrom X.env.cells scope.names [])) s3.heap.objs.size X.env) fun e s' => cpX (model X.prog X.w) X.A X.xe use Qf (.ref D) (compEnvC scope (cellsFrom (s3.heap.objs.size + 1) scope.names (cloFrom X.env.cells scope.names [])) s3.heap.objs.size X.env) (.error e) s') I4
  have tkB := takes_blkN (D := .ref D) (use := use) (Qf := Qf) (scope := scope) (ce := compEnvC scope (cellsFrom (s3.heap.objs.size + 1) scope.names (cloFrom X.env.cells scope.names [])) s3.heap.objs.size X.env) hst hfe tk I3 (fun b hb => (f3 b hb).1) rfl rfl
  have pg := hg s3 (upd H2 D (.lst [])) s3.heap.objs.size (cellsFrom (s3.heap.objs.size + 1) scope.names (cloFrom X.env.cells scope.names [])) fp (notedBy (model X.prog X.w) X.A (compEnvC scope (cellsFrom (s3.heap.objs.size + 1) scope.names (cloFrom X.env.cells scope.names [])) s3.heap.objs.size X.env) fun e s' => cpX (model X.prog X.w) X.A X.xe use Qf (.ref D) (compEnvC scope (cellsFrom (s3.heap.objs.size + 1) scope.names (cloFrom X.env.cells scope.names [])) s3.heap.objs.size X.env) (.error e) s')
  have pt := ht s3 (upd H2 D (.lst [])) s3.heap.objs.size (cellsFrom (s3.heap.objs.size + 1) scope.names (cloFrom X.env.cells scope.names [])) fp (notedBy (model X.prog X.w) X.A (compEnvC scope (cellsFrom (s3.heap.objs.size + 1) scope.names (cloFrom X.env.cells scope.names [])) s3.heap.objs.size X.env) fun e s' => cpX (model X.prog X.w) X.A X.xe use Qf (.ref D) (compEnvC scope (cellsFrom (s3.heap.objs.size + 1) scope.names (cloFrom X.env.cells scope.names [])) s3.heap.objs.size X.env) (.error e) s')
  have pe := he s3 (upd H2 D (.lst [])) s3.heap.objs.size (cellsFrom (s3.heap.objs.size + 1) scope.names (cloFrom X.env.cells scope.names [])) fp _ _ tkB
  show codeAny _ _ (.compStart (.ListComp elt [⟨tg, iter, ifs, 0⟩] scope pos) 0 (.ref it) (.ref D) (compEnvC scope (cellsFrom (s3.heap.objs.size + 1) scope.names (cloFrom X.env.cells scope.names [])) s3.heap.objs.size X.env)) (cpX (model X.prog X.w) X.A X.xe use Qf (.ref D) (compEnvC scope (cellsFrom (s3.heap.objs.size + 1) scope.names (cloFrom X.env.cells scope.names [])) s3.heap.objs.size X.env)) { s3 with heap := pushCells (s3.heap.push { cls := .type "dict", data := .dict #[] }) scope.names }
  have nfp : ∀ b ∈ fp, (upd H2 D (.lst [])) b = none := fun b hb => (f3 b hb).1.1
  generalize hce : compEnvC scope (cellsFrom (s3.heap.objs.size + 1) scope.names (cloFrom X.env.cells scope.names [])) s3.heap.objs.size X.env = ce at I4 tkB pg pt pe ⊢
  clear tkB
  generalize hXE : (notedBy (model X.prog X.w) X.A ce fun e s' => cpX (model X.prog X.w) X.A X.xe use Qf (.ref D) ce (.error e) s') = XEE at I4 pg pt pe
  have cL : ce.locals = s3.heap.objs.size := by subst hce; rfl
  generalize hH3 : upd H2 D (.lst []) = H3 at I3 I4 pg pt pe w0 nfp f3
  generalize hs4 : ({ s3 with heap := pushCells (s3.heap.push { cls := .type "dict", data := .dict #[] }) scope.names } : Shared) = s4 at I4 ⊢
  have st4 : tn 0 s4.heap := T.keep _ _ _ st3 fun b _ o e => by rw [← hs4]; exact pushCells_keeps _ _ _ _ (Heap.get?_push_of_some _ e)
  have stat : ∀ {σ' : L2.St} {H' : Hp} {s' : Shared}, Inv (blkX X s3 H3 scope ce fp XEE) [] σ' H' s' → (∀ b ∈ fp, H' b = none) → ∀ b ∈ fp, FpOk (blkX X s3 H3 scope ce fp XEE) [] H' b := fun {σ' H' s'} I' hn b hb =>
    ⟨hn b hb, (I'.ok.exf b hb).1, I'.ok.exfs b hb, .inl hb, fun x c e => (I'.ok.exf b hb).2 x c e, fun p hp => absurd (show p ∈ ([] : List (Addr × Obj)) ++ [] from hp) (by simp)⟩
  have loop : codeAny (model X.prog X.w) X.A (.compLoop (.ListComp elt [⟨tg, iter, ifs, 0⟩] scope pos) 0 (.ref it) (.ref D) ce) (cpX (model X.prog X.w) X.A X.xe use Qf (.ref D) ce) s4 := by
    refine compLoop_any (fun n s' => ∃ i H', Inv (blkX X s3 H3 scope ce fp XEE) [] (wipe σ (own.map (·.2))) H' s' ∧ tn i s'.heap ∧ (∀ b ∈ fp, H' b = none) ∧ W i n H') ?_ m0 ⟨0, H3, I4, st4, nfp, w0⟩
    rintro n s5 ⟨i, H5, I5, st5, n5, w5⟩
    rcases turn i n H5 w5 with ⟨stop, qq⟩ | ⟨go, Nx, hNx, step⟩
    · have td := T.done (blkX X s3 H3 scope ce fp XEE) rfl rfl rfl hc i [] s5 _ H5 (fun _ _ => False) I5 (stat I5 n5) st5 stop
      refine thnF td fun r s6 ⟨hr, I6⟩ => ?_
      subst hr
      -- back in the def's context
      have I7 : Inv X pins σ H5 s6 := I3.call' (ch := fp) I6.os I6.base I6.hok I6.bare fun b hb => ⟨(f3 b hb).1.2.2.2.1, (f3 b hb).1.2.1, (f3 b hb).1.2.2.2.2.1, (f3 b hb).1.2.2.2.2.2⟩
      have nC : H5 s3.heap.objs.size = none := by
        have z : H5 ce.locals = none := I6.free
        rw [cL] at z
        exact z
      obtain ⟨m, hn, _⟩ := I6.loc
      have hn : s6.heap.Ns ce.locals m := hn
      rw [cL] at hn
      have z := hRR D s3.heap.objs.size s6 m H5 I7 qq hn (I3.fpOk (Nat.le_refl _) nC)
      rw [← cL] at z
      cases use with
      | none => exact z
      | some u => exact z
    · have ti := T.item (blkX X s3 H3 scope ce fp XEE) rfl rfl rfl hc i [] s5 _ H5 (fun _ _ => False) I5 (stat I5 n5) st5 go
      refine thnF ti fun r s6 ⟨u, hr, h6⟩ => ?_
      subst hr
      refine thnF h6 fun _ s7 ⟨x, H7, I7, r7, y7, st7, n7⟩ => ?_
      have I7' := I7.pinned (stat I7 n7) (T.obj _ _ st7)
      rw [hXE]
      refine thn (pg.run _ s7 _ H7 x u _ I7' r7 (step x H7 y7)) fun _ s8 ⟨σ8, H8, I8, hw8, q8⟩ => ?_
      refine thn (pt.run _ s8 σ8 H8 _ I8 q8) fun b s9 ⟨H9, I9, q9⟩ => ?_
      -- the turn's end
      have fin : ∀ {s' : Shared} {H' : Hp}, Inv (blkX X s3 H3 scope ce fp XEE) ([] ++ pinsAt fp s7.heap) σ8 H' s' → Nx H' → ∃ m, m < n ∧ ∃ i H', Inv (blkX X s3 H3 scope ce fp XEE) [] (wipe σ (own.map (·.2))) H' s' ∧ tn i s'.heap ∧ (∀ b ∈ fp, H' b = none) ∧ W i m H' := fun {s' H'} I' nx => by
        obtain ⟨m', hm, w'⟩ := hNx H' nx
        have pin' : ∀ b ∈ fp, ∀ o, s7.heap.get? b = some o → s'.heap.get? b = some o ∧ H' b = none := fun b hb o e =>
          let z := I'.pin (b, o) (List.mem_append_right _ (List.mem_append_right _ (mem_pinsAt hb e)))
          ⟨z.1, z.2.1⟩
        have hl : (wipe σ (own.map (·.2))).length = σ8.length := by rw [← hw8, wipe_length]
        refine ⟨m', hm, i + 1, H', (I'.unpinned (pins := [])).weak hl (fun j v e => ?_), T.keep _ _ _ st7 fun b hb o e => (pin' b hb o e).1, fun b hb => ?_, w'⟩
        · rw [← hw8] at e
          exact (wipe_some e).1
        · obtain ⟨o, e, _⟩ := T.obj _ _ st7 b hb
          exact (pin' b hb o e).2
      cases b with
      | false =>
        simp only [Bool.false_eq_true, if_false] at q9 ⊢
        exact fin I9 q9
      | true =>
        simp only [if_true] at q9 ⊢
        refine thn (pe.run _ s9 σ8 H9 _ I9 q9) fun z s10 ⟨yv, H10, I10, r10, acc, hD10, hz10, nx⟩ => ?_
        exact app_ok (X := blkX X s3 H3 scope ce fp XEE) I10 hD10 hz10 r10 fun s11 I11 => fin I11 nx
  exact codeAny_compStart_list loop (T.self X.A 0 _ _ _ st4 loop)
/-- as a value -/
theorem pe_lcXN {elt tg iter : Expr} {ifs : List Expr} {scope : Scope} {own : List (Str × Nat)} {pos : Pos} {wi : TI} {g : TG} {tt : TT} {te : WX → TE} {W : WX} (hc : X.calm = true) (hN : X.N.Nodup) (hst : X.stack = X.env :: X.outer) (hfe : X.env.frame = some X.env.locals) (tk : L2N.Takes X W) (hi : PI X tg iter wi) (ok : BlkOk X.N X.env.scope scope own)
    (hg : ∀ (s : Shared) (H : Hp) (C : Addr) (cl : List (Str × Addr)) (fp : List Addr) (xe : Value → Shared → Prop), PG (blkX X s H scope (compEnvC scope cl C X.env) fp xe) tg g) (ht : ∀ (s : Shared) (H : Hp) (C : Addr) (cl : List (Str × Addr)) (fp : List Addr) (xe : Value → Shared → Prop), PTs (blkX X s H scope (compEnvC scope cl C X.env) fp xe) ifs tt)
    (he : ∀ (s : Shared) (H : Hp) (C : Addr) (cl : List (Str × Addr)) (fp : List Addr) (xe : Value → Shared → Prop) (W' : WX), L2N.Takes (blkX X s H scope (compEnvC scope cl C X.env) fp xe) W' → PE (blkX X s H scope (compEnvC scope cl C X.env) fp xe) elt (te W')) (hs : ∀ x, foldedSetIterable iter X.env x = pure x := by intro _; rfl) :
    PE X (.ListComp elt [⟨tg, iter, ifs, 0⟩] scope pos) (tLcX wi g tt te W (own.map (·.2))) := by
  refine ⟨fun pins s σ H Q I h => ?_⟩
  rw [eval_ListComp]
  refine lc_coreXN hc hN hst hfe tk I hi ok hg ht he hs h fun D C s' m H' I' q hn f => ⟨m, hn, fun h'' sb => ?_⟩
  obtain ⟨f0, f1, f2, f3, f4, f5⟩ := f
  exact ⟨.ref D, H', I'.turned (t' := s'.toks) (fun b o hb e => (sb.2 b hb).trans e) f0 f1 f3 f4 f5, rfl, q⟩
/-- name = [..] on one line, the name a local -/
theorem ps_setLcXN {i : Nat} {y : Str} {py : Pos} {elt tg iter : Expr} {ifs : List Expr} {scope : Scope} {own : List (Str × Nat)} {pos spos : Pos} {wi : TI} {g : TG} {tt : TT} {te : WX → TE} {W : WX} (hc : X.calm = true) (hN : X.N.Nodup) (hst : X.stack = X.env :: X.outer) (hfe : X.env.frame = some X.env.locals) (tk : L2N.Takes X W) (hy : X.N[i]? = some y) (hyl : X.env.scope.names.lookup y = some .local)
    (hsw : swapsWith (.ListComp elt [⟨tg, iter, ifs, 0⟩] scope pos) (some (.Name y py)) spos.line X.env = pure true) (hi : PI X tg iter wi) (ok : BlkOk X.N X.env.scope scope own)
    (hg : ∀ (s : Shared) (H : Hp) (C : Addr) (cl : List (Str × Addr)) (fp : List Addr) (xe : Value → Shared → Prop), PG (blkX X s H scope (compEnvC scope cl C X.env) fp xe) tg g) (ht : ∀ (s : Shared) (H : Hp) (C : Addr) (cl : List (Str × Addr)) (fp : List Addr) (xe : Value → Shared → Prop), PTs (blkX X s H scope (compEnvC scope cl C X.env) fp xe) ifs tt)
    (he : ∀ (s : Shared) (H : Hp) (C : Addr) (cl : List (Str × Addr)) (fp : List Addr) (xe : Value → Shared → Prop) (W' : WX), L2N.Takes (blkX X s H scope (compEnvC scope cl C X.env) fp xe) W' → PE (blkX X s H scope (compEnvC scope cl C X.env) fp xe) elt (te W')) (hs : ∀ x, foldedSetIterable iter X.env x = pure x := by intro _; rfl) :
    PS X (.Assign [.Name y py] (.ListComp elt [⟨tg, iter, ifs, 0⟩] scope pos) spos) (tAsg (tLcX wi g tt te W (own.map (·.2))) (gName i)) := by
  refine ⟨fun pins s σ H D I h => ?_⟩
  rw [exec_Assign_Name_used _ _ _ _ hsw]
  refine wpAny_bind (wpAny_standAt (wpAny_bind ?_))
  show wpAny _ X.A (do let _ ← comprehension (.ListComp elt [⟨tg, iter, ifs, 0⟩] scope pos) scope X.env (firstIterPos [⟨tg, iter, ifs, 0⟩] pos) (newList []) false (eval iter X.env) (some (assign (.Name y py) X.env))) _ _ s
  have h : tLcX wi g tt te W (own.map (·.2)) σ H (fun x H1 => gName i x σ H1 D.nx) := h
  refine wpAny_bind (thn (lc_coreXN (Qf := fun _ s' => SP X pins D .next s') hc hN hst hfe tk I hi ok hg ht he hs h fun L C s' m H' I' q hn f => ?_) fun _ s' hq => wpAny_pure (wpAny_pure hq))
  show wpAny _ _ (assign (.Name y py) X.env (.ref L)) _ _ _
  refine wpAny_assign_Name (store_ok2 (v := V.ref L) I' hN hy (.inl hyl) rfl (fun s2 I2 ⟨a, sb, ha⟩ => ?_) (.inr hyl))
  obtain ⟨f0, f1, f2, f3, f4, f5⟩ := f
  have haC : C ≠ a := by
    rcases ha with z | z
    · rw [z]; exact f1
    · exact fun e => f4 y a z e.symm
  refine ⟨m, hn.sameBut sb haC, fun h3 sb3 => ?_⟩
  exact ⟨_, H', I2.turned (t' := s2.toks) (fun b o hb e => (sb3.2 b hb).trans e) f0 f1 f3 f4 f5, q⟩
end
/-! ### an own error made, its context None -/
section
variable {X : Cx} {pos p p1 p2 : Pos} {e : Expr} {es : List Expr} {ta t : TA}
theorem pmk_oexN {CX : CXT} {x : Str} {C fI : Addr} {k : Nat} {fd : FuncData} {ps : List Str} {sp : Sp} (T : OexC X.K C) (iC : PySem.W.findIn X.K (.ref C) "__init__" = some (some (.ref fI))) (tI : PySem.W.typeIn X.K (.ref fI) = some (.type "function"))
    (F1 : FnOk X.prog X.w X.K X.mg X.base CX k fI fd ps sp) (hr : Room (k + 1) X.A) (hb : Binds X.K fd ps []) (hx : Passes CX X (fun _ _ _ => False)) (hg : Gl X x) (hm : X.mg x = some (.ref C)) (ha : PA X (e :: es) ta)
    (hdb : (x == ("__debug__" : Str)) = false := by decide) (he : starEach (e :: es) X.env = (false, eval e X.env) :: starEach es X.env := by rfl) (hpl : (backTo pos (starEach es X.env)).any (·.1) = false := by rfl) :
    L2N.PMk X (.Call (.Name x p) (e :: es) [] pos) (tMkO C sp [] ta) := by
  intro pins s σ H Q I h
  obtain ⟨nm, q, N, bs, bm, sn, sub, ab, col, dd, k0, k1, k2, k3, k5, hC, hbm⟩ := T.cls
  refine wpAny_Call_Name_kw (ld_glob I hg hm ?_ hdb)
  refine PySem.W.callWith_K (h₀ := X.base) I.ok.mod.kin T.kC (thn (ha.run pos pins s σ H _ I h) fun us s1 ⟨vs, H1, I1, r1, hz, q1⟩ => ⟨I1.kIn, ?_⟩) he hpl
  show wpAny _ _ (PySem.call (.ref C) us) _ _ _
  obtain ⟨hp, g, dr, tk, os⟩ := s1
  have hsz : hp.objs.size ≤ hp.objs.size + 1 := Nat.le_succ _
  have hn : H1 (hp.objs.size + 1) = none := I1.hok.fresh hsz
  have hq := q1 (hp.objs.size + 1) hn
  rw [List.append_nil] at hq
  have kk : ∀ b o, hp.get? b = some o → ((hp.push (PySem.W.kdv_tup us)).push (PySem.HandSPX.excO C hp.objs.size)).get? b = some o := fun b o e => Heap.get?_push_of_some _ (Heap.get?_push_of_some _ e)
  have hget : ((hp.push (PySem.W.kdv_tup us)).push (PySem.HandSPX.excO C hp.objs.size)).get? (hp.objs.size + 1) = some (PySem.HandSPX.excO C hp.objs.size) := by heap_get
  have I2 : Inv X pins σ (upd H1 (hp.objs.size + 1) (exo (hp.objs.size + 1) C none)) ⟨(hp.push (PySem.W.kdv_tup us)).push (PySem.HandSPX.excO C hp.objs.size), g, dr, tk, os⟩ :=
    I1.laid (t' := tk) (a := hp.objs.size + 1) (o := exo (hp.objs.size + 1) C none) (h' := (hp.push (PySem.W.kdv_tup us)).push (PySem.HandSPX.excO C hp.objs.size)) kk hsz (exo_ok hget)
  have r2 : Vals (V.ref (hp.objs.size + 1) :: vs) (Value.ref (hp.objs.size + 1) :: us) := .cons rfl r1
  have hl : (Value.ref (hp.objs.size + 1) :: us ++ []).length = ps.length := by
    have e := r2.length
    rw [F1.len _ _ _ _ hq] at e
    rw [List.append_nil]
    exact e.symm
  have hus : us.length ≤ sizeLine := by
    rw [← Paired.length r1, sizeLine_eq]
    omega
  have b2 := hb _ (Value.ref (hp.objs.size + 1) :: us) I2.kIn hl
  rw [List.append_nil] at b2
  refine wpAny_call (PySem.HandSPX.call_own F.excBase_ValueError (fun Y => PySem.HandSPX.refsVE_contains Y bm hbm) (I1.kIn _ _ hC) (PySem.W.looks_findIn I1.kIn iC) (fun self => PySem.W.bind_fn I1.kIn self tI) hus
    (codeAny_mono (F1.run _ X.stack _ _ ⟨Value.ref (hp.objs.size + 1) :: us, []⟩ (Value.ref (hp.objs.size + 1) :: us) _ _ (fun _ _ _ => False) (hr.make C us []) (I2.env0.make C us []) b2 r2 hq) fun r s' hq' => ?_))
  cases r with
  | error er => exact hx pins σ _ _ er s' I2 hq'
  | ok fl =>
    cases fl with
    | ret u =>
      obtain ⟨v, H2, os2, bare2, un2, hok2, rv, ev, d, fs, ea, ed, hd1, q2⟩ := hq'
      subst ev
      obtain ⟨h2, g2, d2, t2, os'⟩ := s'
      obtain ⟨t0, G, J, kG, ge, hoe, na⟩ := mk_end0 (d2 := d2) (t2 := t2) I1 hsz kk un2 hok2 os2 bare2 ea ed hd1
      exact ⟨rv, ⟨hp.objs.size + 1, _, _, ⟨G, g2, d2, t2, os'⟩, _, .ref C, some d, rfl, J, kG, ge, hoe, ⟨rfl, rfl, fun vs hv => by cases hv; rfl⟩, rfl, rfl, na, rfl, bare2, raises_own T.exC T.tyC, q2⟩⟩
    | next => exact False.elim hq'
    | brk => exact False.elim hq'
    | cont => exact False.elim hq'
/-- a def of a class called by the class's name, in an except suite -/
theorem pe_ubmH {CX : CXT} {x m : Str} {f : Addr} {k : Nat} {fd : FuncData} {ps : List Str} {sp : Sp} {pl : Sem Bool} (U : UbC X.K X.mg x m f) (hg : Gl X x) (F : L2H.FnH X.prog X.w X.K X.mg X.base CX k f fd ps sp) (hc : L2H.HotC X) (hb : Binds X.K fd ps []) (hr : L2H.RoomH k X.A) (hx : ∀ σ, PassesAt CX X σ (fun _ _ _ => False)) (ha : PA X (e :: es) t) (hdb : (x == ("__debug__" : Str)) = false := by decide)
    (ht : eval (.Call (.Attribute (.Name x p1) m p2) (e :: es) [] pos) X.env = (do
      let ov ← eval (.Name x p1) X.env
      standAt p2.atName
      let (f, first) ← holding [ov] (getMethod ov m pl)
      callWith pos f first (backTo pos (starEach (e :: es) X.env)) (backToKw pos (keywordEach [] X.env))) := by rfl)
    (he : starEach (e :: es) X.env = (false, eval e X.env) :: starEach es X.env := by rfl) (hpl : (backTo pos (starEach es X.env)).any (·.1) = false := by rfl) :
    PE X (.Call (.Attribute (.Name x p1) m p2) (e :: es) [] pos) (tCall sp [] E0 t) := by
  obtain ⟨D, mc, hm, u1, u2, u3, u4, u5⟩ := U.ex
  refine ⟨fun pins s σ H Q I h => ?_⟩
  refine PySem.W.methodCall_KW (pl := pl) (ld_glob I hg hm ?_ hdb) ht
  obtain ⟨mm, fr⟩ := I.fr
  refine PySem.W.method_of_cls fr I.ok.mod.kin u1 (PySem.W.cls_val fr I.ok.mod.kin u2 u3 u4 rfl ?_)
  refine PySem.W.callWith_K (h₀ := X.base) I.ok.mod.kin u5 (thn (ha.run pos pins _ σ H _ (I.tok _) h) fun us s1 ⟨vs, H1, I1, r, q⟩ => ⟨I1.kIn, ?_⟩) he hpl
  have q : sp (vs ++ []) H1 Q E0 := q
  rw [List.append_nil] at q
  exact L2H.run_fnH (E := fun _ _ _ _ => False) F hr hc hb (hx σ) I1 r q
end
end Rg

namespace Rg
open PySem PySem.Spec L2
def top (i : Nat) : Stmt := PySem.Challenge.pw_ringgates_k53_texts_of_no_deeds.main.body.getD i (.Pass ⟨0, 0, 0, 0⟩)
abbrev s_RingError__init : Stmt := inClass (top 1) 0
theorem sc_RingError__init : FnScope ["self", "what"] ["self", "what"] (defScope s_RingError__init) := ⟨rfl, rfl, rfl, by decide +kernel, rfl, by decide +kernel, by decide +kernel⟩
abbrev s_NoMachine__init : Stmt := inClass (top 2) 0
theorem sc_NoMachine__init : FnScope ["self", "what"] ["self", "what"] (defScope s_NoMachine__init) := ⟨rfl, rfl, rfl, by decide +kernel, rfl, by decide +kernel, by decide +kernel⟩
abbrev s_NoSegment__init : Stmt := inClass (top 3) 0
theorem sc_NoSegment__init : FnScope ["self", "what"] ["self", "what"] (defScope s_NoSegment__init) := ⟨rfl, rfl, rfl, by decide +kernel, rfl, by decide +kernel, by decide +kernel⟩
abbrev s_NoDeed__init : Stmt := inClass (top 4) 0
theorem sc_NoDeed__init : FnScope ["self", "what"] ["self", "what"] (defScope s_NoDeed__init) := ⟨rfl, rfl, rfl, by decide +kernel, rfl, by decide +kernel, by decide +kernel⟩
abbrev s_NoWish__init : Stmt := inClass (top 5) 0
theorem sc_NoWish__init : FnScope ["self", "what"] ["self", "what"] (defScope s_NoWish__init) := ⟨rfl, rfl, rfl, by decide +kernel, rfl, by decide +kernel, by decide +kernel⟩
abbrev s_NoRing__init : Stmt := inClass (top 6) 0
theorem sc_NoRing__init : FnScope ["self", "what"] ["self", "what"] (defScope s_NoRing__init) := ⟨rfl, rfl, rfl, by decide +kernel, rfl, by decide +kernel, by decide +kernel⟩
abbrev s_TooMany__init : Stmt := inClass (top 7) 0
theorem sc_TooMany__init : FnScope ["self", "what"] ["self", "what"] (defScope s_TooMany__init) := ⟨rfl, rfl, rfl, by decide +kernel, rfl, by decide +kernel, by decide +kernel⟩
abbrev s_Unlike__init : Stmt := inClass (top 8) 0
theorem sc_Unlike__init : FnScope ["self", "what"] ["self", "what"] (defScope s_Unlike__init) := ⟨rfl, rfl, rfl, by decide +kernel, rfl, by decide +kernel, by decide +kernel⟩
abbrev s_NoText__init : Stmt := inClass (top 9) 0
theorem sc_NoText__init : FnScope ["self", "what"] ["self", "what"] (defScope s_NoText__init) := ⟨rfl, rfl, rfl, by decide +kernel, rfl, by decide +kernel, by decide +kernel⟩
abbrev s_NoRow__init : Stmt := inClass (top 10) 0
theorem sc_NoRow__init : FnScope ["self", "what"] ["self", "what"] (defScope s_NoRow__init) := ⟨rfl, rfl, rfl, by decide +kernel, rfl, by decide +kernel, by decide +kernel⟩
abbrev s_read_deeds : Stmt := top 16
theorem sc_read_deeds : FnScope ["text", "part"] ["text"] (defScope s_read_deeds) := ⟨rfl, rfl, rfl, by decide +kernel, rfl, by decide +kernel, by decide +kernel⟩
abbrev s_is_number : Stmt := top 17
theorem sc_is_number : FnScope ["text", "most", "sign"] ["text", "most"] (defScope s_is_number) := ⟨rfl, rfl, rfl, by decide +kernel, rfl, by decide +kernel, by decide +kernel⟩
abbrev s_number_of : Stmt := top 18
theorem sc_number_of : FnScope ["text"] ["text"] (defScope s_number_of) := ⟨rfl, rfl, rfl, by decide +kernel, rfl, by decide +kernel, by decide +kernel⟩
abbrev s_row_of : Stmt := top 19
theorem sc_row_of : FnScope ["text", "parts", "letters", "part"] ["text"] (defScope s_row_of) := ⟨rfl, rfl, rfl, by decide +kernel, rfl, by decide +kernel, by decide +kernel⟩
abbrev s_law_tray : Stmt := top 21
theorem sc_law_tray : FnScope ["script", "fold", "great", "cell", "much"] ["script"] (defScope s_law_tray) := ⟨rfl, rfl, rfl, by decide +kernel, rfl, by decide +kernel, by decide +kernel⟩
abbrev s_law_draw : Stmt := top 22
theorem sc_law_draw : FnScope ["tray", "many", "found", "mixed"] ["tray", "many"] (defScope s_law_draw) := ⟨rfl, rfl, rfl, by decide +kernel, rfl, by decide +kernel, by decide +kernel⟩
abbrev s_law_great : Stmt := top 23
theorem sc_law_great : FnScope ["tray", "found", "k"] ["tray"] (defScope s_law_great) := ⟨rfl, rfl, rfl, by decide +kernel, rfl, by decide +kernel, by decide +kernel⟩
abbrev s_law_alike : Stmt := top 24
theorem sc_law_alike : FnScope ["found", "due", "k"] ["found", "due"] (defScope s_law_alike) := ⟨rfl, rfl, rfl, by decide +kernel, rfl, by decide +kernel, by decide +kernel⟩
abbrev s_law_number : Stmt := top 25
theorem sc_law_number : FnScope ["tray", "lot"] ["tray"] (defScope s_law_number) := ⟨rfl, rfl, rfl, by decide +kernel, rfl, by decide +kernel, by decide +kernel⟩
abbrev s_law_row : Stmt := top 26
theorem sc_law_row : FnScope ["tray", "many", "some", "word", "p", "q", "n"] ["tray", "many"] (defScope s_law_row) := ⟨rfl, rfl, rfl, by decide +kernel, rfl, by decide +kernel, by decide +kernel⟩
abbrev s_law_word : Stmt := top 27
theorem sc_law_word : FnScope ["tray", "many", "radix", "place"] ["tray", "many", "radix"] (defScope s_law_word) := ⟨rfl, rfl, rfl, by decide +kernel, rfl, by decide +kernel, by decide +kernel⟩
abbrev s_law_segment : Stmt := top 28
theorem sc_law_segment : FnScope ["tray", "many", "radix", "wide", "brackets", "rights", "words", "rows", "k"] ["tray", "many", "radix"] (defScope s_law_segment) := ⟨rfl, rfl, rfl, by decide +kernel, rfl, by decide +kernel, by decide +kernel⟩
abbrev s_law_base : Stmt := top 29
theorem sc_law_base : FnScope ["tray"] ["tray"] (defScope s_law_base) := ⟨rfl, rfl, rfl, by decide +kernel, rfl, by decide +kernel, by decide +kernel⟩
abbrev s_law_segments : Stmt := top 30
theorem sc_law_segments : FnScope ["tray", "radix", "many", "k"] ["tray", "radix"] (defScope s_law_segments) := ⟨rfl, rfl, rfl, by decide +kernel, rfl, by decide +kernel, by decide +kernel⟩
abbrev s_law_word_shown : Stmt := top 31
theorem sc_law_word_shown : FnScope ["word", "part"] ["word"] (defScope s_law_word_shown) := ⟨rfl, rfl, rfl, by decide +kernel, rfl, by decide +kernel, by decide +kernel⟩
abbrev s_law_row_shown : Stmt := top 32
theorem sc_law_row_shown : FnScope ["row", "part"] ["row"] (defScope s_law_row_shown) := ⟨rfl, rfl, rfl, by decide +kernel, rfl, by decide +kernel, by decide +kernel⟩
abbrev s_law_segment_shown : Stmt := top 33
theorem sc_law_segment_shown : FnScope ["segment", "brackets", "rights", "gates", "words", "rows", "text", "level", "word", "row"] ["segment"] (defScope s_law_segment_shown) := ⟨rfl, rfl, rfl, by decide +kernel, rfl, by decide +kernel, by decide +kernel⟩
abbrev s_law_machine_shown : Stmt := top 34
theorem sc_law_machine_shown : FnScope ["some", "radix", "segment"] ["some", "radix"] (defScope s_law_machine_shown) := ⟨rfl, rfl, rfl, by decide +kernel, rfl, by decide +kernel, by decide +kernel⟩
abbrev s_law_sign : Stmt := top 35
theorem sc_law_sign : FnScope ["tray", "some"] ["tray"] (defScope s_law_sign) := ⟨rfl, rfl, rfl, by decide +kernel, rfl, by decide +kernel, by decide +kernel⟩
abbrev s_law_sign_spoilt : Stmt := top 36
theorem sc_law_sign_spoilt : FnScope ["tray", "text", "lot", "at", "sign"] ["tray", "text"] (defScope s_law_sign_spoilt) := ⟨rfl, rfl, rfl, by decide +kernel, rfl, by decide +kernel, by decide +kernel⟩
abbrev s_law_whole_of : Stmt := top 37
theorem sc_law_whole_of : FnScope ["word", "sign"] ["word"] (defScope s_law_whole_of) := ⟨rfl, rfl, rfl, by decide +kernel, rfl, by decide +kernel, by decide +kernel⟩
abbrev s_law_number_of : Stmt := top 38
theorem sc_law_number_of : FnScope ["word", "found"] ["word"] (defScope s_law_number_of) := ⟨rfl, rfl, rfl, by decide +kernel, rfl, by decide +kernel, by decide +kernel⟩
abbrev s_law_row_of : Stmt := top 39
theorem sc_law_row_of : FnScope ["text", "many", "words", "numbers", "word"] ["text"] (defScope s_law_row_of) := ⟨rfl, rfl, rfl, by decide +kernel, rfl, by decide +kernel, by decide +kernel⟩
abbrev s_law_spoilt : Stmt := top 40
theorem sc_law_spoilt : FnScope ["tray", "text", "amid", "parts", "at", "lot", "some"] ["tray", "text"] (defScope s_law_spoilt) := ⟨rfl, rfl, rfl, by decide +kernel, rfl, by decide +kernel, by decide +kernel⟩
abbrev s_law_deeds_of : Stmt := top 41
theorem sc_law_deeds_of : FnScope ["text", "found", "part"] ["text"] (defScope s_law_deeds_of) := ⟨rfl, rfl, rfl, by decide +kernel, rfl, by decide +kernel, by decide +kernel⟩
abbrev s_law : Stmt := top 42
theorem sc_law : FnScope ["script", "tray", "k", "some", "text", "j", "due", "found", "refused", "e", "row"] ["script"] (defScope s_law) := ⟨rfl, rfl, rfl, by decide +kernel, rfl, by decide +kernel, by decide +kernel⟩
end Rg

namespace Rg
open PySem PySem.Spec L2
local macro_rules | `(tactic| walk_at "rd1") => `(tactic| first
  | with_reducible refine rd_seq ?_
  | with_reducible refine rd_asg ?_
  | ((with_reducible show tVar _ _ _ _); refine rd_var rfl ?_)
  | with_reducible refine rd_c ?_
  | with_reducible refine rd_op ?_
  | with_reducible refine rd_I0 ?_
  | with_reducible refine rd_name ?_
  | with_reducible refine rd_ret ?_
  | with_reducible refine rd_ifs ?_
  | with_reducible refine rd_test ?_
  | with_reducible refine rd_tB ?_
  | with_reducible refine rd_bl ?_
  | with_reducible refine rd_drop ?_
  | with_reducible refine rd_nil ?_
  | with_reducible refine rd_cons ?_
  | with_reducible refine rd_call ?_
  | with_reducible refine rd_cb ?_
  | with_reducible refine rd_tup ?_
  | with_reducible refine rd_lst ?_
  | with_reducible refine rd_and ?_
  | with_reducible refine rd_or ?_
  | with_reducible refine rd_not ?_
  | with_reducible refine rd_andV ?_
  | with_reducible refine rd_orV ?_
  | with_reducible refine rd_notV ?_
  | with_reducible refine rd_chain ?_
  | with_reducible refine rd_un ?_
  | with_reducible refine rd_isN ?_
  | with_reducible refine rd_bm ?_
  | with_reducible refine rd_bm0 ?_
  | with_reducible refine rd_gsub ?_
  | with_reducible refine rd_sl ?_
  | with_reducible refine rd_gt ?_
  | with_reducible refine rd_yes ?_
  | with_reducible refine rd_gcons ?_
  | with_reducible refine rd_gnil ?_
  | with_reducible refine rd_part ?_
  | with_reducible refine rd_nopart ?_
  | ((with_reducible show gTup _ _ _ _ _ _ _); refine rd_gtup (by first | assumption | exact upd_same) rfl ?_)
  | ((with_reducible show gLst _ _ _ _ _ _ _); refine rd_glst (by first | assumption | exact upd_same) rfl ?_)
  | ((with_reducible show rIsi _ _ _ _); first | refine rd_isi (b := true) (.ty _) (.base (by first | exact .int _ | exact .str _ | exact .bl _ | exact .non | exact .tup (by assumption) | exact .lst (by assumption))) (kit_ty (by decide +kernel)) ?_ | refine rd_isi (b := false) (.ty _) (.base (by first | exact .int _ | exact .str _ | exact .bl _ | exact .non | exact .tup (by assumption) | exact .lst (by assumption))) (kit_ty (by decide +kernel)) ?_)
  | with_reducible refine rd_fld ?_
  | with_reducible refine rd_sfld ?_
  | with_reducible refine rd_meth ?_
  | with_reducible refine rd_make ?_
  | with_reducible refine rd_makeK ?_
  | with_reducible refine rd_U ?_
  | with_reducible refine rd_makeKS ?_
  | with_reducible refine rd_callN ?_
  | with_reducible refine rd_rs ?_
  | with_reducible refine rd_rf ?_
  | with_reducible refine rd_star ?_
  | with_reducible refine rd_callS ?_
  | with_reducible refine rd_for ?_
  | with_reducible refine rd_lc ?_
  | with_reducible refine rd_ilist ?_
  | with_reducible refine rd_itup ?_
  | with_reducible refine rd_irng ?_
  | with_reducible refine rd_izipS ?_
  | with_reducible refine rd_ienum ?_
  | with_reducible refine rd_ienT ?_
  | with_reducible refine rd_next ?_
  | with_reducible refine rd_eq rfl ?_
  | with_reducible refine rd_ne rfl ?_
  | with_reducible refine iteT ?_
  | with_reducible refine iteF ?_
  | with_reducible refine rd_ifnT ?_
  | with_reducible refine rd_ifnF ?_
  | ((with_reducible show rI (fun _ j => (0 : Int) < j) _ _ _ _ _); refine rd_mod (by omega) ?_)
  | with_reducible refine rd_new rfl ?_
  | ((with_reducible show rIxL _ _ (V.int 0) _ _); refine rd_ixL0 (by first | assumption | exact upd_same) ?_)
  | ((with_reducible show rIxL _ _ _ _ _); refine rd_ixL (by first | assumption | exact upd_same) rfl ?_)
  | ((with_reducible show rSetL _ _ _ _ _); refine rd_setL (by first | assumption | exact upd_same) rfl ?_)
  | ((with_reducible show rI CMul _ _ _ _ _); refine rd_mul (by first | exact Or.inl ⟨by omega, by omega⟩ | exact Or.inr ⟨by omega, by omega⟩) ?_)
  | ((with_reducible show tyV _ "list" _ _ ∧ _); refine rd_tyL (by first | assumption | exact upd_same) ?_)
  | ((with_reducible show rIxT _ _ (V.int 0) _ _); refine rd_ixT0 (by first | assumption | exact upd_same) ?_)
  | ((with_reducible show rIxT _ _ _ _ _); refine rd_ixT (by first | assumption | exact upd_same) rfl ?_))
local macro_rules | `(tactic| walk_at "rdn1") => `(tactic| first
  | with_reducible refine rd_seq ?_
  | with_reducible refine rd_asg ?_
  | ((with_reducible show tVar _ _ _ _); refine rd_var rfl ?_)
  | with_reducible refine rd_c ?_
  | with_reducible refine rd_op ?_
  | with_reducible refine rd_I0 ?_
  | with_reducible refine rd_name ?_
  | with_reducible refine rd_ret ?_
  | with_reducible refine rd_ifs ?_
  | with_reducible refine rd_test ?_
  | with_reducible refine rd_tB ?_
  | with_reducible refine rd_bl ?_
  | with_reducible refine rd_drop ?_
  | with_reducible refine rd_nil ?_
  | with_reducible refine rd_cons ?_
  | with_reducible refine rd_call ?_
  | with_reducible refine rd_cb ?_
  | with_reducible refine rd_tup ?_
  | with_reducible refine rd_lst ?_
  | with_reducible refine rd_and ?_
  | with_reducible refine rd_or ?_
  | with_reducible refine rd_not ?_
  | with_reducible refine rd_notV ?_
  | with_reducible refine rd_chain ?_
  | with_reducible refine rd_un ?_
  | with_reducible refine rd_isN ?_
  | with_reducible refine rd_bm ?_
  | with_reducible refine rd_bm0 ?_
  | with_reducible refine rd_gsub ?_
  | with_reducible refine rd_sl ?_
  | with_reducible refine rd_gt ?_
  | with_reducible refine rd_yes ?_
  | with_reducible refine rd_gcons ?_
  | with_reducible refine rd_gnil ?_
  | with_reducible refine rd_part ?_
  | with_reducible refine rd_nopart ?_
  | ((with_reducible show gTup _ _ _ _ _ _ _); refine rd_gtup (by first | assumption | exact upd_same) rfl ?_)
  | ((with_reducible show gLst _ _ _ _ _ _ _); refine rd_glst (by first | assumption | exact upd_same) rfl ?_)
  | ((with_reducible show rIsi _ _ _ _); first | refine rd_isi (b := true) (.ty _) (.base (by first | exact .int _ | exact .str _ | exact .bl _ | exact .non | exact .tup (by assumption) | exact .lst (by assumption))) (kit_ty (by decide +kernel)) ?_ | refine rd_isi (b := false) (.ty _) (.base (by first | exact .int _ | exact .str _ | exact .bl _ | exact .non | exact .tup (by assumption) | exact .lst (by assumption))) (kit_ty (by decide +kernel)) ?_)
  | with_reducible refine rd_fld ?_
  | with_reducible refine rd_sfld ?_
  | with_reducible refine rd_meth ?_
  | with_reducible refine rd_make ?_
  | with_reducible refine rd_makeK ?_
  | with_reducible refine rd_U ?_
  | with_reducible refine rd_makeKS ?_
  | with_reducible refine rd_callN ?_
  | with_reducible refine rd_rs ?_
  | with_reducible refine rd_rf ?_
  | with_reducible refine rd_star ?_
  | with_reducible refine rd_callS ?_
  | with_reducible refine rd_for ?_
  | with_reducible refine rd_lc ?_
  | with_reducible refine rd_ilist ?_
  | with_reducible refine rd_itup ?_
  | with_reducible refine rd_irng ?_
  | with_reducible refine rd_izipS ?_
  | with_reducible refine rd_ienum ?_
  | with_reducible refine rd_ienT ?_
  | with_reducible refine rd_next ?_
  | with_reducible refine rd_eq rfl ?_
  | with_reducible refine rd_ne rfl ?_
  | with_reducible refine iteT ?_
  | with_reducible refine iteF ?_
  | with_reducible refine rd_ifnT ?_
  | with_reducible refine rd_ifnF ?_
  | ((with_reducible show rI (fun _ j => (0 : Int) < j) _ _ _ _ _); refine rd_mod (by omega) ?_)
  | with_reducible refine rd_new rfl ?_
  | ((with_reducible show rIxL _ _ (V.int 0) _ _); refine rd_ixL0 (by first | assumption | exact upd_same) ?_)
  | ((with_reducible show rIxL _ _ _ _ _); refine rd_ixL (by first | assumption | exact upd_same) rfl ?_)
  | ((with_reducible show rSetL _ _ _ _ _); refine rd_setL (by first | assumption | exact upd_same) rfl ?_)
  | ((with_reducible show rI CMul _ _ _ _ _); refine rd_mul (by first | exact Or.inl ⟨by omega, by omega⟩ | exact Or.inr ⟨by omega, by omega⟩) ?_)
  | ((with_reducible show tyV _ "list" _ _ ∧ _); refine rd_tyL (by first | assumption | exact upd_same) ?_)
  | ((with_reducible show rIxT _ _ (V.int 0) _ _); refine rd_ixT0 (by first | assumption | exact upd_same) ?_)
  | ((with_reducible show rIxT _ _ _ _ _); refine rd_ixT (by first | assumption | exact upd_same) rfl ?_))
local macro_rules | `(tactic| walk_at "rd") => `(tactic| (repeat (first | walk_at "rd1" | dsimp only)))
local macro_rules | `(tactic| walk_at "rds") => `(tactic| (dsimp only [cxOf, Cx.nox, Cx.wish, Cx.blk, L2.start]; walk_at "rd"))
local macro_rules | `(tactic| walk_at "rdn") => `(tactic| (repeat (first | walk_at "rdn1" | dsimp only)))
section
variable {P : Program} {w : World} {K : PySem.W.Frag} {mg : Str → Option Value} {base : Heap}

/-- a text of the top -/
def GS (mg : Str → Option Value) (x : Str) (z : Str) : Prop := ∃ t, mg x = some (Value.str z t)
section
variable {X : Cx}
theorem pe_gs {x : Str} {pos : Pos} {z : Str} (h : GS X.mg x z) (hg : Gl X x) (hd : (x == ("__debug__" : Str)) = false := by decide) : PE X (.Name x pos) (tC (.str z)) := by
  obtain ⟨t, e⟩ := h
  exact pe_glob hg e ⟨t, rfl⟩ hd
def rStrIS : List V → Hp → VK → Prop := fun xs H Q => (∃ i : Int, xs = [.int i] ∧ i.natAbs.log2 < 1920 ∧ Q (.str (toString i)) H) ∨ ∃ a, xs = [.str a] ∧ Q (.str a) H
theorem cr_strIS : CallR X (.type "str") rStrIS := by
  intro pins s σ H xs us Q I r h
  rcases h with h | h
  · exact call_str_int pins s σ H xs us Q I r h
  · exact SkE.call_str_str pins s σ H xs us Q I r h
theorem call_int_sK : CallR X (.type "int") (fun xs H Q => ∃ a n, xs = [.str a] ∧ PySem.intText? a = some n ∧ a.length ≤ 640 ∧ Q (.int n) H) := call_int_str
def rJoin (K : PySem.W.Frag) : V → List V → Hp → VK → Prop := fun x xs H Q => ∃ a p, ∃ ys : List Str, x = .str a ∧ xs = [.ref p] ∧ (SqL K H p (ys.map V.str) ∨ SqT K H p (ys.map V.str)) ∧
      (ys.map (·.length)).sum + ys.length * a.length ≤ 16777216 ∧ Q (.str (Txt.join a ys)) H
theorem pe_joinK {K : PySem.W.Frag} {o e : Expr} {to te : TE} {apos pos : Pos} (ho : PE X o to) (he : PE X e te) (hK : X.K = K := by rfl) (hs : starEach [e] X.env = [(false, eval e X.env)] := by rfl)
    (hbase : attributeBase o "join" X.env (eval o X.env) = eval o X.env := by rfl) (hline : (apos.endLine == pos.line) = true := by rfl) :
    PE X (.Call (.Attribute o "join" apos) [e] [] pos) (tM1 (rJoin K) to te) := by
  subst hK
  exact pe_join ho he hs hbase hline
theorem pe_orTK {K : PySem.W.Frag} {a b : Expr} {ta tb : TE} {rest : List Expr} {pos : Pos} (ha : PE X a ta) (hb : PE X (.BoolOp .Or (b :: rest) pos) tb) (hK : X.K = K := by rfl) : PE X (.BoolOp .Or (a :: b :: rest) pos) (tOrT K ta tb) := by
  subst hK
  exact pe_orT ha hb
end
section
variable {K : PySem.W.Frag} {σ : L2.St} {H : Hp} {Q : VK}
theorem rd_m1 {r : V → List V → Hp → VK → Prop} {to te : TE} (h : to σ H fun x H1 => (∃ a, x = .str a) ∧ te σ H1 fun y H2 => r x [y] H2 Q) : tM1 r to te σ H Q := h
theorem rd_sjoin {a : Str} {p : Addr} {ys : List Str} (h : H p = some (.lst (ys.map V.str))) (hl : (ys.map (·.length)).sum + ys.length * a.length ≤ 16777216) (q : Q (.str (Txt.join a ys)) H) : rJoin K (.str a) [.ref p] H Q :=
  ⟨a, p, ys, rfl, rfl, .inl (SqL.of h), hl, q⟩
theorem rd_iS {te : TE} {R : It → Hp → Prop} (h : te σ H fun v H1 => ∃ x, v = .str x ∧ R (Its x) H1) : iStr te σ H R := h
theorem rd_orT {ta tb : TE} (h : ta σ H fun x H1 => ∃ k, TruV K x H1 k ∧ if k = true then Q x H1 else tb σ H1 Q) : tOrT K ta tb σ H Q := h
end

/-! ### numbers as texts -/
def numT (i : Int) : Str := toString i
theorem tl_numT_nn {i : Int} (h : 0 ≤ i) : TL.tl (numT i) = TL.numL i.toNat := by
  obtain ⟨n, rfl⟩ := Int.eq_ofNat_of_zero_le h
  rw [Int.toNat_natCast]
  exact TL.tl_num n
theorem tl_numT_neg {i : Int} (h : i < 0) : TL.tl (numT i) = 45 :: TL.numL (-i).toNat := by
  have e : numT i = Str.ofString ("-" ++ toString (0 - i)) := congrArg Str.ofString (PyProof.Rows.toString_neg h)
  rw [e, TL.tl_ofString]
  have e2 : ("-" ++ toString (0 - i)).toList = '-' :: (toString (0 - i)).toList := by
    rw [String.toList_append]
    rfl
  rw [e2, List.map_cons, ← TL.tl_ofString]
  have e3 : (0 : Int) - i = (((-i).toNat : Nat) : Int) := by omega
  rw [e3, TL.tl_num]
  have e4 : (((-i).toNat : Nat) : Int).toNat = (-i).toNat := by omega
  rfl
theorem numL_head : ∀ {n : Nat}, 0 < n → ∀ c r, TL.numL n = c :: r → c ≠ 48 := by
  intro n
  induction n using Nat.strongRecOn with
  | _ n ih =>
    intro hn c r e
    by_cases h : n < 10
    · rw [TL.numL_lt h] at e
      injection e with e1 e2
      omega
    · rw [TL.numL_step (by omega)] at e
      cases hd : TL.numL (n / 10) with
      | nil => exact absurd hd (TL.numL_ne _)
      | cons d q =>
        rw [hd] at e
        injection e with e1 e2
        exact e1 ▸ ih (n / 10) (by omega) (by omega) d q hd
def NumB (i : Int) : Prop := -1000000000000000000000000000000000000000000000000000000000000 < i ∧ i < 1000000000000000000000000000000000000000000000000000000000000
theorem numL_60 {n : Nat} (h : n < 1000000000000000000000000000000000000000000000000000000000000) : (TL.numL n).length ≤ 60 := TL.numL_len (by decide) (by rw [show (10 : Nat) ^ 60 = 1000000000000000000000000000000000000000000000000000000000000 from by decide]; exact h)
theorem numT_len {i : Int} (h : NumB i) : (numT i).length ≤ 61 := by
  rw [TL.len_tl]
  unfold NumB at h
  by_cases h0 : 0 ≤ i
  · rw [tl_numT_nn h0]
    have := numL_60 (n := i.toNat) (by omega)
    omega
  · rw [tl_numT_neg (by omega), List.length_cons]
    have := numL_60 (n := (-i).toNat) (by omega)
    omega
theorem numT_log {i : Int} (h : NumB i) : i.natAbs.log2 < 1920 := by
  unfold NumB at h
  by_cases h0 : i.natAbs = 0
  · rw [h0]
    decide
  · rw [Nat.log2_lt h0]
    have h1 : i.natAbs < 1000000000000000000000000000000000000000000000000000000000000 := by omega
    exact Nat.lt_trans h1 (by
      have : (1000000000000000000000000000000000000000000000000000000000000 : Nat) < 2 ^ 200 := by decide
      exact Nat.lt_of_lt_of_le this (Nat.pow_le_pow_right (by decide) (by decide)))
theorem numT_free {i : Int} {s : Nat} (h : s < 45 ∨ 57 < s) : s ∉ TL.tl (numT i) := by
  by_cases h0 : 0 ≤ i
  · rw [tl_numT_nn h0]
    exact TL.numL_free (by omega)
  · rw [tl_numT_neg (by omega)]
    intro hm
    rcases List.mem_cons.mp hm with e | e
    · omega
    · exact TL.numL_free (by omega) e
/-- whether a text is a number of so many figures -/
def digB (c : Nat) : Bool := decide (c ∈ ("0123456789" : Str).cps.toList)
theorem digB_of {c : Nat} (h : 48 ≤ c ∧ c ≤ 57) : digB c = true := by
  unfold digB
  have e : ("0123456789" : Str).cps.toList = [48, 49, 50, 51, 52, 53, 54, 55, 56, 57] := by decide +kernel
  rw [e]
  apply decide_eq_true
  simp only [List.mem_cons, List.not_mem_nil, or_false]
  omega
def isNumB (z : Str) (m : Int) : Bool := (decide (1 ≤ (z.length : Int)) && decide ((z.length : Int) ≤ m)) && (z.cps.toList.all digB && (decide (z = "0") || !decide (z.cps.toList.head? = some 48)))
theorem isNum_numL {n : Nat} {z : Str} (e : TL.tl z = TL.numL n) (h : n < 1000000000000000000000000000000000000000000000000000000000000) : isNumB z 60 = true := by
  unfold isNumB
  have l1 := numL_60 h
  have l0 : 0 < (TL.numL n).length := List.length_pos_iff.mpr (TL.numL_ne n)
  have el : z.length = (TL.numL n).length := by rw [TL.len_tl, e]
  rw [decide_eq_true (by omega : 1 ≤ (z.length : Int)), decide_eq_true (by omega : (z.length : Int) ≤ 60)]
  have ez : z.cps.toList = TL.numL n := e
  rw [ez, List.all_eq_true.mpr (fun c hc => digB_of (TL.numL_digits n c hc))]
  rw [Bool.true_and, Bool.true_and, Bool.true_and]
  by_cases h0 : n = 0
  · subst h0
    have : z = "0" := TL.ext_tl (by rw [e]; rfl)
    rw [decide_eq_true this]
    rfl
  · cases hd : TL.numL n with
    | nil => exact absurd hd (TL.numL_ne n)
    | cons c r =>
      have := numL_head (by omega) c r hd
      rw [decide_eq_false (show ¬ (c :: r).head? = some 48 from fun q => this (by injection q))]
      simp
theorem rp_no {z : Str} (h : (TL.tl z).head? ≠ some 45) : Txt.removeprefix z "-" = z := by
  unfold Txt.removeprefix
  rw [PySem.StrLaws.subAt_eq, List.drop_zero]
  have e : ((z.cps.toList.take ("-" : Str).length) == ("-" : Str).cps.toList) = false := by
    have e1 : ("-" : Str).cps.toList = [45] := by decide +kernel
    have e2 : ("-" : Str).length = 1 := by decide +kernel
    rw [e1, e2]
    cases hz : z.cps.toList with
    | nil => rfl
    | cons c r =>
      have hz' : TL.tl z = c :: r := hz
      rw [hz'] at h
      rw [List.take_succ_cons, List.take_zero]
      cases hb : ([c] == [45]) with
      | false => rfl
      | true => exact absurd (by have := eq_of_beq hb; injection this with q; rw [q]; rfl) h
  rw [e]
  rfl
theorem rp_yes {z : Str} {cs : List Nat} (h : TL.tl z = 45 :: cs) : TL.tl (Txt.removeprefix z "-") = cs := by
  unfold Txt.removeprefix
  rw [PySem.StrLaws.subAt_eq, List.drop_zero]
  have e2 : ("-" : Str).length = 1 := by decide +kernel
  have e : ((z.cps.toList.take ("-" : Str).length) == ("-" : Str).cps.toList) = true := by
    have e1 : ("-" : Str).cps.toList = [45] := by decide +kernel
    rw [e1, e2, show z.cps.toList = 45 :: cs from h]
    rfl
  rw [e, if_pos rfl]
  have hl : z.length = cs.length + 1 := by rw [TL.len_tl, h, List.length_cons]
  show TL.tl (if (z.length - ("-" : Str).length == z.length) = true then z else PySem.Builtin.Str.strSub z ("-" : Str).length z.length) = cs
  rw [if_neg (by rw [e2]; simp; omega), TL.tl_strSub_end, e2, h]
  rfl
theorem rp_len (z : Str) : z.length ≤ (Txt.removeprefix z "-").length + 1 := by
  by_cases h : (TL.tl z).head? = some 45
  · cases hz : TL.tl z with
    | nil => rw [hz] at h; cases h
    | cons c r =>
      rw [hz] at h
      injection h with h
      subst h
      rw [TL.len_tl, TL.len_tl, rp_yes hz, hz, List.length_cons]
      exact Nat.le_refl _
  · rw [rp_no h]
    omega
/-- the number that a text writes -/
def numR (z : Str) : Option Int := if z = "-0" then none else if isNumB (Txt.removeprefix z "-") 60 = true then intText? z else none
theorem numR_len {z : Str} {n : Int} (h : numR z = some n) : z.length ≤ 61 ∧ z ≠ "-0" ∧ isNumB (Txt.removeprefix z "-") 60 = true ∧ intText? z = some n := by
  unfold numR at h
  by_cases h0 : z = "-0"
  · rw [if_pos h0] at h; cases h
  · rw [if_neg h0] at h
    by_cases h1 : isNumB (Txt.removeprefix z "-") 60 = true
    · rw [if_pos h1] at h
      refine ⟨?_, h0, h1, h⟩
      have h2 := h1
      unfold isNumB at h2
      simp only [Bool.and_eq_true, decide_eq_true_eq] at h2
      have := rp_len z
      have := h2.1.2
      omega
    · rw [if_neg h1] at h; cases h
theorem numR_numT {i : Int} (h : NumB i) : numR (numT i) = some i := by
  unfold NumB at h
  unfold numR
  have ez : TL.tl ("-0" : Str) = [45, 48] := by decide +kernel
  by_cases h0 : 0 ≤ i
  · have et := tl_numT_nn h0
    have hne : (TL.tl (numT i)).head? ≠ some 45 := by
      rw [et]
      intro q
      have := TL.numL_digits i.toNat 45 (List.mem_of_mem_head? q)
      omega
    rw [if_neg (fun q => hne (by rw [q, ez]; rfl)), rp_no hne, if_pos (isNum_numL et (by omega))]
    have e2 : numT i = Str.ofString (toString (((i.toNat : Nat)) : Int)) := by
      rw [Int.toNat_of_nonneg h0]
      rfl
    rw [e2, TL.int_num (by have := numL_60 (n := i.toNat) (by omega); omega), Int.toNat_of_nonneg h0]
  · have et := tl_numT_neg (i := i) (by omega)
    have hnz : numT i ≠ "-0" := fun q => by
      rw [q, ez] at et
      injection et with _ e2
      have : TL.numL 0 = TL.numL (-i).toNat := e2
      have := TL.numL_inj this
      omega
    rw [if_neg hnz, if_pos (isNum_numL (rp_yes et) (by omega)), intText_neg et (TL.numL_digits _) (TL.numL_ne _) (by rw [TL.len_tl, et, List.length_cons]; have := numL_60 (n := (-i).toNat) (by omega); omega), TL.numL_val]
    congr 1
    omega
/-! ### rows as texts -/
def rowT (r : Rw) : Str := Txt.join " " (r.op :: r.ns.map numT)
def rowsT (rs : List Rw) : Str := Txt.join ", " (rs.map rowT)
def RowB (r : Rw) : Prop := ∀ z ∈ r.ns, NumB z
def rowRd (z : Str) : Option Rw := match Txt.split z " " with
  | [] => none
  | w :: ps => match formOf w with
    | none => none
    | some l => if ps.length = l.length then (ps.mapM numR).map (Rw.mk w) else none
theorem form_free {w l : Str} (h : formOf w = some l) : (∀ s ∈ TL.tl w, 97 ≤ s ∧ s ≤ 122) ∧ 1 ≤ w.length ∧ w.length ≤ 6 ∧ l.length ≤ 3 := by
  have hm := PySem.mem_of_lookup (show rowForms.lookup w = some l from h)
  exact (by decide +kernel : ∀ p ∈ rowForms, (∀ s ∈ TL.tl p.1, 97 ≤ s ∧ s ≤ 122) ∧ 1 ≤ p.1.length ∧ p.1.length ≤ 6 ∧ p.2.length ≤ 3) _ hm
theorem row_split {r : Rw} (hf : RwForm r) : Txt.split (rowT r) " " = r.op :: r.ns.map numT := by
  obtain ⟨l, hl, _⟩ := hf
  refine TL.split_join (s := 32) (S := []) (by decide +kernel) (by decide +kernel) (by simp) fun p hp => ?_
  rcases List.mem_cons.mp hp with e | e
  · subst e
    intro hm
    have := (form_free hl).1 32 hm
    omega
  · obtain ⟨i, _, rfl⟩ := List.mem_map.mp e
    exact numT_free (by omega)
theorem mapM_numR : ∀ {ns : List Int}, (∀ z ∈ ns, NumB z) → (ns.map numT).mapM numR = some ns
  | [], _ => rfl
  | n :: ns, h => by
    rw [List.map_cons, List.mapM_cons, numR_numT (h n (List.mem_cons_self ..)), mapM_numR fun z hz => h z (List.mem_cons_of_mem _ hz)]
    rfl
theorem rowRd_rowT {r : Rw} (hf : RwForm r) (hb : RowB r) : rowRd (rowT r) = some r := by
  unfold rowRd
  rw [row_split hf]
  obtain ⟨l, hl, hn⟩ := id hf
  dsimp only
  rw [hl]
  dsimp only
  have hn' : (r.ns.map numT).length = l.length := by rw [List.length_map]; exact hn.symm
  rw [if_pos hn', mapM_numR hb]
  rfl
theorem joinL_len (S : List Nat) : ∀ ps : List (List Nat), (TL.joinL S ps).length ≤ (ps.map List.length).sum + ps.length * S.length
  | [] => Nat.zero_le _
  | [p] => by simp [TL.joinL]
  | p :: q :: r => by
    show (p ++ (S ++ TL.joinL S (q :: r))).length ≤ _
    have ih := joinL_len S (q :: r)
    rw [List.length_append, List.length_append]
    rw [List.map_cons, List.sum_cons, List.length_cons, Nat.succ_mul]
    omega
theorem join_len (a : Str) (ys : List Str) : (Txt.join a ys).length ≤ (ys.map (·.length)).sum + ys.length * a.length := by
  rw [TL.len_tl, TL.join_eq, TL.tl_join]
  have h := joinL_len (TL.tl a) (ys.map TL.tl)
  rw [List.map_map, List.length_map] at h
  rw [TL.len_tl a]
  have e : (ys.map (List.length ∘ TL.tl)) = ys.map (·.length) := List.map_congr_left fun y _ => (TL.len_tl y).symm
  rw [e] at h
  exact h
theorem sum_le {c : Nat} : ∀ {ys : List Nat}, (∀ y ∈ ys, y ≤ c) → ys.sum ≤ ys.length * c
  | [], _ => by simp
  | y :: ys, h => by
    rw [List.sum_cons, List.length_cons, Nat.succ_mul]
    have h1 := h y (List.mem_cons_self ..)
    have h2 := sum_le fun z hz => h z (List.mem_cons_of_mem _ hz)
    omega
theorem row_lens {r : Rw} (hf : RwForm r) (hb : RowB r) : r.ns.length ≤ 3 ∧ ((r.op :: r.ns.map numT).map (·.length)).sum + (r.op :: r.ns.map numT).length * (" " : Str).length ≤ 250 := by
  obtain ⟨l, hl, hn⟩ := id hf
  have f := form_free hl
  have l3 : r.ns.length ≤ 3 := by
    have : l.length = r.ns.length := hn
    omega
  refine ⟨l3, ?_⟩
  rw [show (" " : Str).length = 1 from by decide +kernel, List.map_cons, List.sum_cons, List.length_cons, List.length_map]
  have h2 := sum_le (ys := (r.ns.map numT).map (·.length)) (c := 61) fun y hy => by
    obtain ⟨z, hz, rfl⟩ := List.mem_map.mp hy
    obtain ⟨i, hi, rfl⟩ := List.mem_map.mp hz
    exact numT_len (hb i hi)
  rw [List.length_map, List.length_map] at h2
  omega
theorem rowT_len {r : Rw} (hf : RwForm r) (hb : RowB r) : (rowT r).length ≤ 250 := Nat.le_trans (join_len _ _) (row_lens hf hb).2
theorem rows_lens {rs : List Rw} (h : ∀ r ∈ rs, RwForm r ∧ RowB r) : ((rs.map rowT).map (·.length)).sum + (rs.map rowT).length * (", " : Str).length ≤ rs.length * 252 := by
  rw [show (", " : Str).length = 2 from by decide +kernel]
  have h2 := sum_le (ys := (rs.map rowT).map (·.length)) (c := 250) fun y hy => by
    obtain ⟨z, hz, rfl⟩ := List.mem_map.mp hy
    obtain ⟨r, hr, rfl⟩ := List.mem_map.mp hz
    exact rowT_len (h r hr).1 (h r hr).2
  rw [List.length_map, List.length_map] at h2
  rw [List.length_map]
  omega
theorem rowsT_len {rs : List Rw} (h : ∀ r ∈ rs, RwForm r ∧ RowB r) : (rowsT rs).length ≤ rs.length * 252 := Nat.le_trans (join_len _ _) (rows_lens h)
theorem row_comma {r : Rw} (hf : RwForm r) : 44 ∉ TL.tl (rowT r) := by
  obtain ⟨l, hl, _⟩ := id hf
  unfold rowT
  rw [TL.join_eq, TL.tl_join, show TL.tl (" " : Str) = [32] from by decide +kernel]
  have key : ∀ ps : List (List Nat), (∀ p ∈ ps, 44 ∉ p) → 44 ∉ TL.joinL [32] ps := by
    intro ps
    induction ps with
    | nil => intro _ h; cases h
    | cons p ps ih =>
      intro h
      cases ps with
      | nil => exact h p (List.mem_singleton.mpr rfl)
      | cons q r =>
        show 44 ∉ p ++ ([32] ++ TL.joinL [32] (q :: r))
        intro hm
        rcases List.mem_append.mp hm with e | e
        · exact h p (List.mem_cons_self ..) e
        · rcases List.mem_append.mp e with e | e
          · simp at e
          · exact ih (fun z hz => h z (List.mem_cons_of_mem _ hz)) e
  refine key _ fun p hp => ?_
  rw [List.map_cons] at hp
  rcases List.mem_cons.mp hp with e | e
  · subst e
    intro hm
    have := (form_free hl).1 44 hm
    omega
  · rw [List.map_map] at e
    obtain ⟨i, _, rfl⟩ := List.mem_map.mp e
    exact numT_free (by omega)
theorem rows_split {rs : List Rw} (h : ∀ r ∈ rs, RwForm r) (hne : rs ≠ []) : Txt.split (rowsT rs) ", " = rs.map rowT :=
  TL.split_join (s := 44) (S := [32]) (by decide +kernel) (by decide +kernel) (fun e => hne (List.map_eq_nil_iff.mp e)) fun p hp => by
    obtain ⟨r, hr, rfl⟩ := List.mem_map.mp hp
    exact row_comma (h r hr)
theorem rowT_head {r : Rw} (hf : RwForm r) : ∃ c q, TL.tl (rowT r) = c :: q ∧ 97 ≤ c ∧ c ≤ 122 := by
  obtain ⟨l, hl, _⟩ := id hf
  have f := form_free hl
  have hn : TL.tl r.op ≠ [] := fun e => by
    have := TL.len_tl r.op
    rw [e] at this
    have := f.2.1
    simp at *
    omega
  cases ho : TL.tl r.op with
  | nil => exact absurd ho hn
  | cons c q =>
    have fc := f.1 c (by rw [ho]; exact List.mem_cons_self ..)
    unfold rowT
    rw [TL.join_eq, TL.tl_join, List.map_cons, ho]
    cases (r.ns.map numT).map TL.tl with
    | nil => exact ⟨c, q, rfl, fc⟩
    | cons a b => exact ⟨c, _, rfl, fc⟩
theorem rowsT_head {rs : List Rw} (h : ∀ r ∈ rs, RwForm r) (hne : rs ≠ []) : ∃ c q, TL.tl (rowsT rs) = c :: q ∧ 97 ≤ c ∧ c ≤ 122 := by
  cases rs with
  | nil => exact absurd rfl hne
  | cons r rs =>
    obtain ⟨c, q, e, hc⟩ := rowT_head (h r (List.mem_cons_self ..))
    unfold rowsT
    rw [TL.join_eq, TL.tl_join, List.map_cons, List.map_cons, e]
    cases (rs.map rowT).map TL.tl with
    | nil => exact ⟨c, q, rfl, hc⟩
    | cons a b => exact ⟨c, _, rfl, hc⟩
/-- deeds as a text -/
def deedsT (rs : List Rw) : Str := if rs = [] then "-" else rowsT rs
def deedsR (z : Str) : Option (List Rw) := if z = "-" then some [] else (Txt.split z ", ").mapM rowRd
theorem mapM_rowRd : ∀ {rs : List Rw}, (∀ r ∈ rs, RwForm r ∧ RowB r) → (rs.map rowT).mapM rowRd = some rs
  | [], _ => rfl
  | r :: rs, h => by
    rw [List.map_cons, List.mapM_cons, rowRd_rowT (h r (List.mem_cons_self ..)).1 (h r (List.mem_cons_self ..)).2, mapM_rowRd fun z hz => h z (List.mem_cons_of_mem _ hz)]
    rfl
theorem deedsR_T {rs : List Rw} (h : ∀ r ∈ rs, RwForm r ∧ RowB r) : deedsR (deedsT rs) = some rs := by
  unfold deedsR deedsT
  by_cases hn : rs = []
  · rw [if_pos hn, if_pos rfl, hn]
  · rw [if_neg hn]
    obtain ⟨c, q, e, hc⟩ := rowsT_head (fun r hr => (h r hr).1) hn
    rw [if_neg (fun z => by rw [z, show TL.tl ("-" : Str) = [45] from by decide +kernel] at e; injection e with e1 e2; omega), rows_split (fun r hr => (h r hr).1) hn, mapM_rowRd h]

end
end Rg

namespace Rg
open PySem PySem.Spec L2
local macro_rules | `(tactic| walk_at "rd1") => `(tactic| first
  | with_reducible refine rd_seq ?_
  | with_reducible refine rd_asg ?_
  | ((with_reducible show tVar _ _ _ _); refine rd_var rfl ?_)
  | with_reducible refine rd_c ?_
  | with_reducible refine rd_op ?_
  | with_reducible refine rd_I0 ?_
  | with_reducible refine rd_name ?_
  | with_reducible refine rd_ret ?_
  | with_reducible refine rd_ifs ?_
  | with_reducible refine rd_test ?_
  | with_reducible refine rd_tB ?_
  | with_reducible refine rd_bl ?_
  | with_reducible refine rd_drop ?_
  | with_reducible refine rd_nil ?_
  | with_reducible refine rd_cons ?_
  | with_reducible refine rd_call ?_
  | with_reducible refine rd_cb ?_
  | with_reducible refine rd_tup ?_
  | with_reducible refine rd_lst ?_
  | with_reducible refine rd_and ?_
  | with_reducible refine rd_or ?_
  | with_reducible refine rd_not ?_
  | with_reducible refine rd_andV ?_
  | with_reducible refine rd_orV ?_
  | with_reducible refine rd_notV ?_
  | with_reducible refine rd_chain ?_
  | with_reducible refine rd_un ?_
  | with_reducible refine rd_isN ?_
  | with_reducible refine rd_bm ?_
  | with_reducible refine rd_bm0 ?_
  | with_reducible refine rd_gsub ?_
  | with_reducible refine rd_sl ?_
  | with_reducible refine rd_gt ?_
  | with_reducible refine rd_yes ?_
  | with_reducible refine rd_gcons ?_
  | with_reducible refine rd_gnil ?_
  | with_reducible refine rd_part ?_
  | with_reducible refine rd_nopart ?_
  | ((with_reducible show gTup _ _ _ _ _ _ _); refine rd_gtup (by first | assumption | exact upd_same) rfl ?_)
  | ((with_reducible show gLst _ _ _ _ _ _ _); refine rd_glst (by first | assumption | exact upd_same) rfl ?_)
  | ((with_reducible show rIsi _ _ _ _); first | refine rd_isi (b := true) (.ty _) (.base (by first | exact .int _ | exact .str _ | exact .bl _ | exact .non | exact .tup (by assumption) | exact .lst (by assumption))) (kit_ty (by decide +kernel)) ?_ | refine rd_isi (b := false) (.ty _) (.base (by first | exact .int _ | exact .str _ | exact .bl _ | exact .non | exact .tup (by assumption) | exact .lst (by assumption))) (kit_ty (by decide +kernel)) ?_)
  | with_reducible refine rd_fld ?_
  | with_reducible refine rd_sfld ?_
  | with_reducible refine rd_meth ?_
  | with_reducible refine rd_make ?_
  | with_reducible refine rd_makeK ?_
  | with_reducible refine rd_U ?_
  | with_reducible refine rd_makeKS ?_
  | with_reducible refine rd_callN ?_
  | with_reducible refine rd_rs ?_
  | with_reducible refine rd_rf ?_
  | with_reducible refine rd_star ?_
  | with_reducible refine rd_callS ?_
  | with_reducible refine rd_for ?_
  | with_reducible refine rd_lc ?_
  | with_reducible refine rd_ilist ?_
  | with_reducible refine rd_itup ?_
  | with_reducible refine rd_irng ?_
  | with_reducible refine rd_izipS ?_
  | with_reducible refine rd_ienum ?_
  | with_reducible refine rd_ienT ?_
  | with_reducible refine rd_next ?_
  | with_reducible refine rd_eq rfl ?_
  | with_reducible refine rd_ne rfl ?_
  | with_reducible refine iteT ?_
  | with_reducible refine iteF ?_
  | with_reducible refine rd_ifnT ?_
  | with_reducible refine rd_ifnF ?_
  | ((with_reducible show rI (fun _ j => (0 : Int) < j) _ _ _ _ _); refine rd_mod (by omega) ?_)
  | with_reducible refine rd_new rfl ?_
  | ((with_reducible show rIxL _ _ (V.int 0) _ _); refine rd_ixL0 (by first | assumption | exact upd_same) ?_)
  | ((with_reducible show rIxL _ _ _ _ _); refine rd_ixL (by first | assumption | exact upd_same) rfl ?_)
  | ((with_reducible show rSetL _ _ _ _ _); refine rd_setL (by first | assumption | exact upd_same) rfl ?_)
  | ((with_reducible show rI CMul _ _ _ _ _); refine rd_mul (by first | exact Or.inl ⟨by omega, by omega⟩ | exact Or.inr ⟨by omega, by omega⟩) ?_)
  | ((with_reducible show tyV _ "list" _ _ ∧ _); refine rd_tyL (by first | assumption | exact upd_same) ?_)
  | ((with_reducible show rIxT _ _ (V.int 0) _ _); refine rd_ixT0 (by first | assumption | exact upd_same) ?_)
  | ((with_reducible show rIxT _ _ _ _ _); refine rd_ixT (by first | assumption | exact upd_same) rfl ?_))
local macro_rules | `(tactic| walk_at "rdn1") => `(tactic| first
  | with_reducible refine rd_seq ?_
  | with_reducible refine rd_asg ?_
  | ((with_reducible show tVar _ _ _ _); refine rd_var rfl ?_)
  | with_reducible refine rd_c ?_
  | with_reducible refine rd_op ?_
  | with_reducible refine rd_I0 ?_
  | with_reducible refine rd_name ?_
  | with_reducible refine rd_ret ?_
  | with_reducible refine rd_ifs ?_
  | with_reducible refine rd_test ?_
  | with_reducible refine rd_tB ?_
  | with_reducible refine rd_bl ?_
  | with_reducible refine rd_drop ?_
  | with_reducible refine rd_nil ?_
  | with_reducible refine rd_cons ?_
  | with_reducible refine rd_call ?_
  | with_reducible refine rd_cb ?_
  | with_reducible refine rd_tup ?_
  | with_reducible refine rd_lst ?_
  | with_reducible refine rd_and ?_
  | with_reducible refine rd_or ?_
  | with_reducible refine rd_not ?_
  | with_reducible refine rd_notV ?_
  | with_reducible refine rd_chain ?_
  | with_reducible refine rd_un ?_
  | with_reducible refine rd_isN ?_
  | with_reducible refine rd_bm ?_
  | with_reducible refine rd_bm0 ?_
  | with_reducible refine rd_gsub ?_
  | with_reducible refine rd_sl ?_
  | with_reducible refine rd_gt ?_
  | with_reducible refine rd_yes ?_
  | with_reducible refine rd_gcons ?_
  | with_reducible refine rd_gnil ?_
  | with_reducible refine rd_part ?_
  | with_reducible refine rd_nopart ?_
  | ((with_reducible show gTup _ _ _ _ _ _ _); refine rd_gtup (by first | assumption | exact upd_same) rfl ?_)
  | ((with_reducible show gLst _ _ _ _ _ _ _); refine rd_glst (by first | assumption | exact upd_same) rfl ?_)
  | ((with_reducible show rIsi _ _ _ _); first | refine rd_isi (b := true) (.ty _) (.base (by first | exact .int _ | exact .str _ | exact .bl _ | exact .non | exact .tup (by assumption) | exact .lst (by assumption))) (kit_ty (by decide +kernel)) ?_ | refine rd_isi (b := false) (.ty _) (.base (by first | exact .int _ | exact .str _ | exact .bl _ | exact .non | exact .tup (by assumption) | exact .lst (by assumption))) (kit_ty (by decide +kernel)) ?_)
  | with_reducible refine rd_fld ?_
  | with_reducible refine rd_sfld ?_
  | with_reducible refine rd_meth ?_
  | with_reducible refine rd_make ?_
  | with_reducible refine rd_makeK ?_
  | with_reducible refine rd_U ?_
  | with_reducible refine rd_makeKS ?_
  | with_reducible refine rd_callN ?_
  | with_reducible refine rd_rs ?_
  | with_reducible refine rd_rf ?_
  | with_reducible refine rd_star ?_
  | with_reducible refine rd_callS ?_
  | with_reducible refine rd_for ?_
  | with_reducible refine rd_lc ?_
  | with_reducible refine rd_ilist ?_
  | with_reducible refine rd_itup ?_
  | with_reducible refine rd_irng ?_
  | with_reducible refine rd_izipS ?_
  | with_reducible refine rd_ienum ?_
  | with_reducible refine rd_ienT ?_
  | with_reducible refine rd_next ?_
  | with_reducible refine rd_eq rfl ?_
  | with_reducible refine rd_ne rfl ?_
  | with_reducible refine iteT ?_
  | with_reducible refine iteF ?_
  | with_reducible refine rd_ifnT ?_
  | with_reducible refine rd_ifnF ?_
  | ((with_reducible show rI (fun _ j => (0 : Int) < j) _ _ _ _ _); refine rd_mod (by omega) ?_)
  | with_reducible refine rd_new rfl ?_
  | ((with_reducible show rIxL _ _ (V.int 0) _ _); refine rd_ixL0 (by first | assumption | exact upd_same) ?_)
  | ((with_reducible show rIxL _ _ _ _ _); refine rd_ixL (by first | assumption | exact upd_same) rfl ?_)
  | ((with_reducible show rSetL _ _ _ _ _); refine rd_setL (by first | assumption | exact upd_same) rfl ?_)
  | ((with_reducible show rI CMul _ _ _ _ _); refine rd_mul (by first | exact Or.inl ⟨by omega, by omega⟩ | exact Or.inr ⟨by omega, by omega⟩) ?_)
  | ((with_reducible show tyV _ "list" _ _ ∧ _); refine rd_tyL (by first | assumption | exact upd_same) ?_)
  | ((with_reducible show rIxT _ _ (V.int 0) _ _); refine rd_ixT0 (by first | assumption | exact upd_same) ?_)
  | ((with_reducible show rIxT _ _ _ _ _); refine rd_ixT (by first | assumption | exact upd_same) rfl ?_))
local macro_rules | `(tactic| walk_at "rd") => `(tactic| (repeat (first | walk_at "rd1" | dsimp only)))
local macro_rules | `(tactic| walk_at "rds") => `(tactic| (dsimp only [cxOf, Cx.nox, Cx.wish, Cx.blk, L2.start]; walk_at "rd"))
local macro_rules | `(tactic| walk_at "rdn") => `(tactic| (repeat (first | walk_at "rdn1" | dsimp only)))
section
variable {P : Program} {w : World} {K : PySem.W.Frag} {mg : Str → Option Value} {base : Heap}

theorem rw_tup {H : Hp} {v : V} {r : Rw} (h : Rp H v r.d) : ∃ p, v = .ref p ∧ H p = some (.tup (.str r.op :: r.ns.map V.int)) := by
  obtain ⟨p, xs, rfl, hp, ha⟩ := h.tup_inv
  obtain ⟨x0, xr, e0, h0, hb⟩ := ha.cons_inv
  have e1 := h0.str_inv; subst e1
  have e2 := hb.ints_inv; subst e2
  subst e0
  exact ⟨p, rfl, hp⟩
def spShowRow : Sp := fun vs H Q _ => ∃ (v : V) (r : Rw), vs = [v] ∧ Rp H v r.d ∧ RwForm r ∧ RowB r ∧ ∀ H', Same H H' → Q (.str (rowT r)) H'
def spShowRows : Sp := fun vs H Q _ => ∃ (L : Addr) (us : List V) (rs : List Rw), vs = [.ref L] ∧ H L = some (.lst us) ∧ RpAll H us (rs.map Rw.d) ∧ (∀ r ∈ rs, RwForm r ∧ RowB r) ∧ rs.length ≤ 900 ∧ ∀ H', Same H H' → Q (.str (rowsT rs)) H'
def spShowDeeds : Sp := fun vs H Q _ => ∃ (L : Addr) (us : List V) (rs : List Rw), vs = [.ref L] ∧ H L = some (.lst us) ∧ RpAll H us (rs.map Rw.d) ∧ (∀ r ∈ rs, RwForm r ∧ RowB r) ∧ rs.length ≤ 900 ∧ ∀ H', Same H H' → Q (.str (deedsT rs)) H'
/-! ### reading -/
theorem rowRd_inv {z : Str} {r : Rw} (h : rowRd z = some r) : ∃ (w : Str) (ps : List Str) (l : Str) (ns : List Int), Txt.split z " " = w :: ps ∧ formOf w = some l ∧ ps.length = l.length ∧ ps.mapM numR = some ns ∧ r = ⟨w, ns⟩ := by
  unfold rowRd at h
  cases e : Txt.split z " " with
  | nil => rw [e] at h; cases h
  | cons w ps =>
    rw [e] at h
    dsimp only at h
    cases e2 : formOf w with
    | none => rw [e2] at h; cases h
    | some l =>
      rw [e2] at h
      dsimp only at h
      by_cases hl : ps.length = l.length
      · rw [if_pos hl] at h
        obtain ⟨ns, h1, h2⟩ := Option.map_eq_some_iff.mp h
        exact ⟨w, ps, l, ns, rfl, e2, hl, h1, h2.symm⟩
      · rw [if_neg hl] at h; cases h
theorem at_zero {α : Type} {c : α} {r : List α} : atI (c :: r) 0 = some c := by
  unfold atI
  have e : ixN (c :: r).length 0 = some 0 := by
    unfold ixN
    simp
  rw [e]
  rfl
theorem sgn_eq {c d : Nat} : ((⟨#[c]⟩ : Str) = ⟨#[d]⟩) ↔ c = d := ⟨fun h => by injection h with h; simpa using h, fun h => by rw [h]⟩
theorem mapM_get {α β : Type} {f : α → Option β} : ∀ {xs : List α} {ys : List β}, xs.mapM f = some ys → xs.length = ys.length ∧ ∀ (i : Nat) (a : α), xs[i]? = some a → ∃ b : β, f a = some b ∧ ys[i]? = some b
  | [], ys, h => by
    injection h with h
    subst h
    exact ⟨rfl, fun i a e => by simp at e⟩
  | x :: xs, ys, h => by
    rw [List.mapM_cons] at h
    cases hx : f x with
    | none => rw [hx] at h; cases h
    | some b =>
      rw [hx] at h
      cases hr : xs.mapM f with
      | none => rw [hr] at h; cases h
      | some bs =>
        rw [hr] at h
        have h : some (b :: bs) = some ys := h
        injection h with h
        subst h
        obtain ⟨h1, h2⟩ := mapM_get hr
        refine ⟨by rw [List.length_cons, List.length_cons, h1], fun i a e => ?_⟩
        cases i with
        | zero =>
          injection e with e
          subst e
          exact ⟨b, hx, rfl⟩
        | succ i => exact h2 i a e
theorem spl_len (S : List Nat) : ∀ (l : List Nat) (k : Nat) (acc : List Nat), ∀ p ∈ TL.spl S k acc l, p.length ≤ acc.length + l.length
  | [], k, acc, p, h => by
    rw [TL.spl_nil] at h
    rw [List.mem_singleton.mp h]
    exact Nat.le_add_right _ _
  | c :: r, 0, acc, p, h => by
    cases hp : TL.pre S (c :: r) with
    | true =>
      rw [TL.spl_hit hp] at h
      rcases List.mem_cons.mp h with e | e
      · rw [e]
        exact Nat.le_add_right _ _
      · have := spl_len S r _ _ p e
        rw [List.length_cons]
        simp at this
        omega
    | false =>
      rw [TL.spl_miss hp] at h
      have := spl_len S r _ _ p h
      rw [List.length_append] at this
      rw [List.length_cons]
      simp at this
      omega
  | c :: r, k + 1, acc, p, h => by
    have := spl_len S r k acc p h
    rw [List.length_cons]
    omega
theorem split_len {x y : Str} (hy : TL.tl y ≠ []) (hk : y.cps.all (· < 256) = true) : ∀ p ∈ Txt.split x y, p.length ≤ x.length := by
  intro p hp
  have e := TL.split_spl x y hy (TL.kind_ok hk)
  have hm : TL.tl p ∈ TL.spl (TL.tl y) 0 [] (TL.tl x) := by
    rw [← e]
    exact List.mem_map.mpr ⟨p, hp, rfl⟩
  have := spl_len _ _ _ _ _ hm
  rw [TL.len_tl, TL.len_tl x]
  simpa using this
theorem split_cnt (x y : Str) : (Txt.split x y).length ≤ x.length + 2 := PyProof.Rows.split_le x y
theorem mapM_len {α β : Type} {f : α → Option β} {xs : List α} {ys : List β} (h : xs.mapM f = some ys) : xs.length = ys.length := (mapM_get h).1
def spIsNum : Sp := fun vs H Q _ => ∃ (z : Str) (m : Int), vs = [.str z, .int m] ∧ m ≤ 900 ∧ z.length ≤ sizeLine ∧ ∀ H', Same H H' → Q (.bl (isNumB z m)) H'
theorem ok_is_number {f : Addr} {fd : FuncData} (B : BT mg) (F : Fun K "is_number" "is_number" s_is_number f fd) (hm : mg "is_number" = some (.ref f)) (G_FIGURES : GS mg "FIGURES" "0123456789") : Cal P w K mg base "is_number" 1 ["text", "most"] spIsNum := by
  refine ⟨f, fd, hm, F.kp, F.binds (ps := ["text", "most"]) fun _ _ _ _ _ _ us hl => match us, hl with | [_, _], _ => rfl, ?_⟩
  refine F.ok sc_is_number (fun vs H Q E h => ?_) (fun cdv A outer s H vs Q E hr h => ?_)
  · obtain ⟨z, m, rfl, _⟩ := h
    rfl
  · obtain ⟨z, m, rfl, m9, hz, k⟩ := h
    refine ⟨_, (pss_cons (ps_if (PW.pt (pw_or (pt_not (pt_chain op_le op_le pe_int (pe_callB call_len_str rfl B.g_len PySem.boot_len (pa_cons (pv 0) pa_nil)) (pv 1))) (pw_or1 (pt_not (pt_val (pe_callB (r := rAll K) (cr_all rfl) rfl B.g_all (by decide +kernel) (pa_cons (pe_lc (own := [("sign", 2)]) (g := gName 2) (tt := tYes) rfl sc_is_number.nd (pi_str (pv 0)) (blkOk_by (own := [("sign", 2)]) (N := ["text", "most", "sign"]) (sc := defScope s_is_number) (by decide +kernel)) (fun _ _ _ _ _ => (pg_name (i := 2) sc_is_number.nd rfl (by first | exact Or.inl rfl | exact Or.inr rfl))) (fun _ _ _ _ _ => pts_nil) (fun _ _ _ _ _ => (pe_cmpR op_in_sign (pv 2) (pe_gs G_FIGURES rfl) (by rfl)))) pa_nil))))))) (pss_one (ps_ret pe_bl)) pss_nil)
 (pss_one (ps_ret (pe_or (pe_cmpR op_eq (pv 0) pe_str (nomark _)) (pe_one (pe_cmpR op_ne (pe_ix (r := rIxS) ix_str (pv 0) pe_int (fun _ _ => rfl)) pe_str (nomark _))))))), ?_⟩
    unfold isNumB at k
    walk_at "rds"
    refine ⟨z, rfl, hz, ?_⟩
    walk_at "rd"
    refine rd_ifd (fun h1 => ?_) (fun h1 => ?_)
    case refine_2 =>
      rw [decide_eq_false h1] at k
      walk_at "rd"
      exact k _ (Same.refl _)
    rw [decide_eq_true h1] at k
    walk_at "rd"
    refine rd_ifn (fun h2' => ?_) (fun h2' => ?_)
    case refine_2 =>
      rw [h2'] at k
      walk_at "rd"
      exact k _ (Same.refl _)
    have h2 : (z.length : Int) ≤ m := of_decide_eq_true h2'
    rw [h2'] at k
    walk_at "rd"
    refine rd_iS ?_
    walk_at "rd"
    refine ⟨z, rfl, fun D hD => ?_⟩
    have hsz : z.cps.size = z.cps.toList.length := by simp
    have hzl : z.length = z.cps.toList.length := by rw [← hsz]; rfl
    refine lc_it (walk_str (z := z)) (CompL D H z.cps.toList (fun c => V.bl (digB c))) (CompL.start hD) (fun _ _ _ _ => trivial) ?_ ?_
    · rintro i y Ha Hb hi pc ⟨rfl, c, hc, rfl⟩
      have hc' : z.cps.toList[i]? = some c := by rw [Array.getElem?_toList]; exact hc
      walk_at "rd"
      refine ⟨rfl, ?_⟩
      walk_at "rd"
      refine ⟨c, _, rfl, rfl, ?_⟩
      exact pc.step hD (by omega) hc' (Same.refl _) rfl
    rintro Ha pc
    have he := pc.end hsz
    walk_at "rd"
    refine rd_all (f := digB) he ?_
    walk_at "rd"
    refine rd_ifn (fun hA => ?_) (fun hA => ?_)
    case refine_2 =>
      rw [hA] at k
      walk_at "rd"
      exact k _ pc.2
    rw [hA] at k
    walk_at "rd"
    refine rd_ifd (fun h0 => ?_) (fun h0 => ?_)
    · have hz0 : z = "0" := by injection h0
      rw [decide_eq_true hz0] at k
      exact k _ pc.2
    · have hz0 : z ≠ "0" := fun q => h0 (by rw [q])
      rw [decide_eq_false hz0] at k
      walk_at "rd"
      cases hl : z.cps.toList with
      | nil => rw [hl] at hzl; simp at hzl; omega
      | cons c r =>
        refine ⟨z, 0, c, rfl, rfl, hz, by rw [hl]; exact at_zero, ?_⟩
        walk_at "rd"
        rw [hl] at k
        by_cases h48 : c = 48
        · subst h48
          rw [decide_eq_true (p := (List.cons 48 r).head? = some 48) rfl] at k
          rw [decide_eq_true (p := V.str ⟨#[48]⟩ = V.str "0") (congrArg V.str (by decide +kernel))]
          exact k _ pc.2
        · rw [decide_eq_false (show ¬ (List.cons c r).head? = some 48 from fun q => h48 (by injection q))] at k
          rw [decide_eq_false (show ¬ V.str ⟨#[c]⟩ = V.str "0" from fun q => h48 (by injection q with q; exact sgn_eq.mp (q.trans (by decide +kernel : ("0" : Str) = ⟨#[48]⟩))))]
          exact k _ pc.2
def spNumOf : Sp := fun vs H Q _ => ∃ (z : Str) (n : Int), vs = [.str z] ∧ numR z = some n ∧ ∀ H', Same H H' → Q (.int n) H'
theorem ok_number_of {f : Addr} {fd : FuncData} (B : BT mg) (F : Fun K "number_of" "number_of" s_number_of f fd) (hm : mg "number_of" = some (.ref f)) (G_MOST_FIGURES : GI mg "MOST_FIGURES" 60) (C_is_number : Cal P w K mg base "is_number" 1 ["text", "most"] spIsNum) : Cal P w K mg base "number_of" 2 ["text"] spNumOf := by
  refine ⟨f, fd, hm, F.kp, F.binds (ps := ["text"]) fun _ _ _ _ _ _ us hl => match us, hl with | [_], _ => rfl, ?_⟩
  refine F.ok sc_number_of (fun vs H Q E h => ?_) (fun cdv A outer s H vs Q E hr h => ?_)
  · obtain ⟨z, n, rfl, _⟩ := h
    rfl
  · obtain ⟨z, n, rfl, hn, k⟩ := h
    refine ⟨_, (pss_cons (ps_if (PW.pt (pw_or (pt_cmpR op_eq (pv 0) pe_str (nomark _)) (pw_or1 (pt_not (pt_val (pe_cal C_is_number (hr.mono (by omega)) rfl (pa_cons (pe_m1 PySem.F.slot_str_removeprefix PySem.F.type_str_removeprefix mt_removeprefix (pv 0) pe_str) (pa_cons (pe_gi G_MOST_FIGURES rfl) pa_nil)))))))) (pss_one ps_never) pss_nil)
 (pss_one (ps_ret (pe_callTy call_int_sK rfl B.g_int (by decide +kernel) (pa_cons (pv 0) pa_nil))))), ?_⟩
    obtain ⟨hl, h0, h1, h2⟩ := numR_len hn
    walk_at "rds"
    refine rd_ifd (fun h => absurd (by injection h) h0) (fun _ => ?_)
    walk_at "rd"
    have hlz : z.length ≤ sizeLine := Nat.le_trans hl (by rw [sizeLine_eq]; decide)
    have hrl : (Txt.removeprefix z "-").length ≤ 60 := by
      have h3 := h1
      unfold isNumB at h3
      simp only [Bool.and_eq_true, decide_eq_true_eq] at h3
      have := h3.1.2
      omega
    refine rd_m1 ?_
    walk_at "rd"
    refine ⟨⟨_, rfl⟩, ?_⟩
    walk_at "rd"
    refine ⟨z, _, rfl, rfl, hlz, ?_⟩
    walk_at "rd"
    refine ⟨_, 60, rfl, by decide, Nat.le_trans hrl (by rw [sizeLine_eq]; decide), fun H1 s1 => ?_⟩
    rw [h1]
    walk_at "rd"
    exact ⟨z, n, rfl, h2, by omega, k _ s1⟩
def spRowOf : Sp := fun vs H Q _ => ∃ (z : Str) (r : Rw), vs = [.str z] ∧ rowRd z = some r ∧ z.length ≤ 4000 ∧ ∀ (v : V) (H' : Hp), Rp H' v r.d → Same H H' → Q v H'
theorem ok_row_of {f : Addr} {fd : FuncData} (B : BT mg) (F : Fun K "row_of" "row_of" s_row_of f fd) (hm : mg "row_of" = some (.ref f)) (G_ROW_FORMS : GFo K w mg) (C_number_of : Cal P w K mg base "number_of" 2 ["text"] spNumOf) : Cal P w K mg base "row_of" 3 ["text"] spRowOf := by
  refine ⟨f, fd, hm, F.kp, F.binds (ps := ["text"]) fun _ _ _ _ _ _ us hl => match us, hl with | [_], _ => rfl, ?_⟩
  refine F.ok sc_row_of (fun vs H Q E h => ?_) (fun cdv A outer s H vs Q E hr h => ?_)
  · obtain ⟨z, r, rfl, _⟩ := h
    rfl
  · obtain ⟨z, r, rfl, hr0, hl, k⟩ := h
    refine ⟨_, (pss_cons (ps_set (i := 1) sc_row_of.nd rfl (Or.inl rfl) (pe_split (pv 0) pe_str))
 (pss_cons (ps_set (i := 2) sc_row_of.nd rfl (Or.inl rfl) (pe_kget (pe_fo G_ROW_FORMS rfl) (pe_ix (r := rIxL K) ix_list (pv 1) pe_int (fun _ _ => rfl)) ⟨rfl, rfl, rfl, rfl⟩))
 (pss_cons (ps_if (PW.pt (pw_or (pt_cmpR op_isN (pv 2) pe_non (nomark _)) (pw_or1 (pt_cmpR op_ne (pe_callB (cr_lenS (K := K)) rfl B.g_len PySem.boot_len (pa_cons (pv 1) pa_nil)) (pe_op op_add (pe_callB call_len_str rfl B.g_len PySem.boot_len (pa_cons (pv 2) pa_nil)) pe_int) (nomark _))))) (pss_one ps_never) pss_nil)
 (pss_one (ps_ret (pe_op (r := rCatA K) op_catA (pe_tup (pa_cons (pe_ix (r := rIxL K) ix_list (pv 1) pe_int (fun _ _ => rfl)) pa_nil)) (pe_callTy (cr_tupOf (K := K)) rfl B.g_tuple (by decide +kernel) (pa_cons (pe_lc (own := [("part", 3)]) (g := gName 3) (tt := tYes) rfl sc_row_of.nd (pi_listK (K := K) (pe_slice (r := rSlL K) sl_list (pv 1) (po_some pe_int) po_none)) (blkOk_by (own := [("part", 3)]) (N := ["text", "parts", "letters", "part"]) (sc := defScope s_row_of) (by decide +kernel)) (fun _ _ _ _ _ => (pg_name (i := 3) sc_row_of.nd rfl (by first | exact Or.inl rfl | exact Or.inr rfl))) (fun _ _ _ _ _ => pts_nil) (fun _ _ _ _ _ => (pe_cal C_number_of (hr.mono (by omega)) rfl (pa_cons (pv 3) pa_nil)))) pa_nil)))))))), ?_⟩
    walk_at "rds"
    obtain ⟨wd, ps, l, ns, e1, e2, e3, e4, rfl⟩ := rowRd_inv hr0
    refine rd_m1 ?_
    walk_at "rd"
    refine ⟨⟨_, rfl⟩, ?_⟩
    walk_at "rd"
    refine ⟨z, _, rfl, rfl, by decide +kernel, by rw [sizeLine_eq]; omega, fun p hp => ?_⟩
    rw [e1]
    have lps : ps.length ≤ 3 := by rw [e3]; exact (form_free e2).2.2.2
    walk_at "rd"
    refine rd_fo (w := w) ?_ ?_
    · walk_at "rd"
      refine ⟨_, l, rfl, e2, ?_⟩
      walk_at "rd"
      refine ⟨rfl, ?_⟩
      walk_at "rd"
      refine rd_ifF (fun z => nomatch z) ?_
      walk_at "rd"
      refine ⟨p, _, rfl, .inl (SqL.of upd_same), ?_⟩
      walk_at "rd"
      refine ⟨l, rfl, Nat.le_trans (form_len e2) (by decide), ?_⟩
      walk_at "rd"
      refine rd_ifIn (fun _ => ?_) (fun e => absurd (by rw [List.length_map, List.length_cons, e3]; push_cast; rfl) e)
      walk_at "rd"
      intro p2 hp2
      have s2 := (same_upd (o := .lst ((wd :: ps).map V.str)) hp).trans (same_upd (o := .tup [.str wd]) hp2)
      walk_at "rd"
      refine ⟨1, rfl, ?_⟩
      refine ⟨p, _, rfl, SqL.of ((same_upd hp2) _ _ upd_same), fun p3 hp3 => ?_⟩
      have ec : cutV ((wd :: ps).map V.str) (some 1) none = ps.map V.str := by
        unfold cutV
        simp [HT.sIx]
        exact List.take_of_length_le (by simp)
      rw [ec]
      walk_at "rd"
      refine ⟨p3, rfl, ⟨_, SqL.of upd_same⟩, fun D hD => ?_⟩
      generalize hHx : upd (upd (upd H p (.lst ((wd :: ps).map V.str))) p2 (.tup [.str wd])) p3 (.lst (ps.map V.str)) = Hx at hD
      have h3x : Hx p3 = some (.lst (ps.map V.str)) := by rw [← hHx]; exact upd_same
      have h2x : Hx p2 = some (.tup [.str wd]) := by rw [← hHx]; exact (same_upd hp3) _ _ upd_same
      have sx : Same H Hx := by rw [← hHx]; exact s2.trans (same_upd hp3)
      obtain ⟨lps2, gps⟩ := mapM_get e4
      refine lc_it (walk_list (xs := ps.map V.str)) (CompL D Hx ns V.int) (CompL.start hD) (fun i H' _ p => SqL.of (p.2 _ _ h3x)) ?_ ?_
      · rintro i y Ha Hb hi pc ⟨rfl, hy⟩
        rw [List.getElem?_map] at hy
        obtain ⟨u, hu, rfl⟩ := Option.map_eq_some_iff.mp hy
        obtain ⟨n, hn1, hn2⟩ := gps i u hu
        walk_at "rd"
        refine ⟨rfl, ?_⟩
        walk_at "rd"
        refine ⟨u, n, rfl, hn1, fun H4 s4 => ?_⟩
        exact pc.step hD (by simp at hi; omega) hn2 s4 rfl
      rintro Ha pc
      have he := pc.end (by rw [List.length_map]; exact lps2)
      walk_at "rd"
      refine ⟨D, _, rfl, .inl ⟨SqL.of he, fun pt hpt => ?_⟩⟩
      refine rd_catA ((same_upd hpt) _ _ (pc.2 _ _ h2x)) upd_same (by rw [List.length_map]; show 1 + _ ≤ 1000; omega) fun q6 H6 s6 e6 => ?_
      exact k _ _ (.tup e6 (.cons (.str _) (.ints _))) (((sx.trans pc.2).trans (same_upd hpt)).trans s6)
    · rintro R R' hR ⟨v, e1, h1⟩
      refine ⟨v, e1, ?_⟩
      obtain ⟨p, xs, i, v, a, b, c, d, q⟩ := h1
      exact ⟨p, xs, i, v, a, b, c, d, hR _ _ q⟩
def spReadDeeds : Sp := fun vs H Q _ => ∃ (z : Str) (rs : List Rw), vs = [.str z] ∧ deedsR z = some rs ∧ z.length ≤ 4000 ∧ rs.length ≤ 900 ∧ ∀ (L : Addr) (us : List V) (H' : Hp), H L = none → H' L = some (.lst us) → RpAll H' us (rs.map Rw.d) → Same H H' → Q (.ref L) H'
theorem fn_read_deeds {f NT : Addr} {fd : FuncData} (B : BT mg) (F : Fun K "read_deeds" "read_deeds" s_read_deeds f fd) (X_NoText : Exk P w K mg base "NoText" NT) (G_NOTHING : GS mg "NOTHING" "-") (C_row_of : Cal P w K mg base "row_of" 3 ["text"] spRowOf) : FnOk P w K mg base CX0 4 f fd ["text"] spReadDeeds := by
  refine F.ok sc_read_deeds (fun vs H Q E h => ?_) (fun cdv A outer s H vs Q E hr h => ?_)
  · obtain ⟨z, rs, rfl, _⟩ := h
    rfl
  · obtain ⟨z, rs, rfl, hr0, hl, n9, k⟩ := h
    refine ⟨_, (pss_cons (ps_if (pt_cmpR op_eq (pv 0) (pe_gs G_NOTHING rfl) (nomark _)) (pss_one (ps_ret (pe_lst pa_nil))) pss_nil)
 (pss_one (ps_try_only rfl rfl ⟨rfl, by decide, .inl X_NoText.mgx⟩ takes0 (fun W pn xe tk _ => (pss_one (ps_ret (pe_lc (own := [("part", 1)]) (g := gName 1) (tt := tYes) rfl sc_read_deeds.nd (pi_listK (K := K) (pe_split (pv 0) pe_str)) (blkOk_by (own := [("part", 1)]) (N := ["text", "part"]) (sc := defScope s_read_deeds) (by decide +kernel)) (fun _ _ _ _ _ => (pg_name (i := 1) sc_read_deeds.nd rfl (by first | exact Or.inl rfl | exact Or.inr rfl))) (fun _ _ _ _ _ => pts_nil) (fun _ _ _ _ _ => (pe_cal C_row_of (hr.mono (by omega)) rfl (pa_cons (pv 1) pa_nil))))))) (fun a oe cls d pn hz hf => (pss_one ps_never))))), ?_⟩
    walk_at "rds"
    refine rd_ifd (fun h => ?_) (fun h => ?_)
    · have hz : z = "-" := by injection h
      have hrs : rs = [] := by
        unfold deedsR at hr0
        rw [if_pos hz] at hr0
        injection hr0 with q
        exact q.symm
      subst hrs
      walk_at "rd"
      intro p hp
      exact k p [] _ hp upd_same .nil (same_upd hp)
    · have hz : z ≠ "-" := fun q => h (by rw [q])
      unfold deedsR at hr0
      rw [if_neg hz] at hr0
      have hlen := mapM_len hr0
      walk_at "rd"
      refine rd_m1 ?_
      walk_at "rd"
      refine ⟨⟨_, rfl⟩, ?_⟩
      walk_at "rd"
      refine ⟨z, _, rfl, rfl, by decide +kernel, by rw [sizeLine_eq]; omega, fun p hp => ?_⟩
      walk_at "rd"
      refine ⟨p, rfl, ⟨_, SqL.of upd_same⟩, fun D hD => ?_⟩
      obtain ⟨lps2, gps⟩ := mapM_get hr0
      refine lc_it (walk_list (xs := (Txt.split z ", ").map V.str)) (CompR D _ rs Rw.d) (CompR.start hD) (fun i H' _ p => by obtain ⟨_, _, _, p⟩ := p; exact SqL.of (p _ _ upd_same)) ?_ ?_
      · rintro i y Ha Hb hi pc ⟨rfl, hy⟩
        rw [List.getElem?_map] at hy
        obtain ⟨u, hu, rfl⟩ := Option.map_eq_some_iff.mp hy
        obtain ⟨r, hr1, hr2⟩ := gps i u hu
        walk_at "rd"
        refine ⟨rfl, ?_⟩
        walk_at "rd"
        refine ⟨u, r, rfl, hr1, Nat.le_trans (split_len (by decide +kernel) (by decide +kernel) u (List.mem_of_getElem? hu)) hl, fun v H4 rv s4 => ?_⟩
        exact pc.step hD (by simp at hi; omega) hr2 s4 rv
      rintro Ha pc
      obtain ⟨us, h1, h2, h3⟩ := pc.end (by rw [List.length_map]; exact lps2)
      walk_at "rd"
      have nD : H D = none := (same_upd hp).free hD
      exact k D us _ nD h1 h2 ((same_upd hp).trans h3)
theorem ok_read_deeds {f NT : Addr} {fd : FuncData} (B : BT mg) (F : Fun K "read_deeds" "read_deeds" s_read_deeds f fd) (hm : mg "read_deeds" = some (.ref f)) (X_NoText : Exk P w K mg base "NoText" NT) (G_NOTHING : GS mg "NOTHING" "-") (C_row_of : Cal P w K mg base "row_of" 3 ["text"] spRowOf) : Cal P w K mg base "read_deeds" 4 ["text"] spReadDeeds :=
  ⟨f, fd, hm, F.kp, F.binds (ps := ["text"]) fun _ _ _ _ _ _ us hl => match us, hl with | [_], _ => rfl, fn_read_deeds B F X_NoText G_NOTHING C_row_of⟩

end
end Rg

namespace Rg
open PySem PySem.Spec L2
local macro_rules | `(tactic| walk_at "rd1") => `(tactic| first
  | with_reducible refine rd_seq ?_
  | with_reducible refine rd_asg ?_
  | ((with_reducible show tVar _ _ _ _); refine rd_var rfl ?_)
  | with_reducible refine rd_c ?_
  | with_reducible refine rd_op ?_
  | with_reducible refine rd_I0 ?_
  | with_reducible refine rd_name ?_
  | with_reducible refine rd_ret ?_
  | with_reducible refine rd_ifs ?_
  | with_reducible refine rd_test ?_
  | with_reducible refine rd_tB ?_
  | with_reducible refine rd_bl ?_
  | with_reducible refine rd_drop ?_
  | with_reducible refine rd_nil ?_
  | with_reducible refine rd_cons ?_
  | with_reducible refine rd_call ?_
  | with_reducible refine rd_cb ?_
  | with_reducible refine rd_tup ?_
  | with_reducible refine rd_lst ?_
  | with_reducible refine rd_and ?_
  | with_reducible refine rd_or ?_
  | with_reducible refine rd_not ?_
  | with_reducible refine rd_andV ?_
  | with_reducible refine rd_orV ?_
  | with_reducible refine rd_notV ?_
  | with_reducible refine rd_chain ?_
  | with_reducible refine rd_un ?_
  | with_reducible refine rd_isN ?_
  | with_reducible refine rd_bm ?_
  | with_reducible refine rd_bm0 ?_
  | with_reducible refine rd_gsub ?_
  | with_reducible refine rd_sl ?_
  | with_reducible refine rd_gt ?_
  | with_reducible refine rd_yes ?_
  | with_reducible refine rd_gcons ?_
  | with_reducible refine rd_gnil ?_
  | with_reducible refine rd_part ?_
  | with_reducible refine rd_nopart ?_
  | ((with_reducible show gTup _ _ _ _ _ _ _); refine rd_gtup (by first | assumption | exact upd_same) rfl ?_)
  | ((with_reducible show gLst _ _ _ _ _ _ _); refine rd_glst (by first | assumption | exact upd_same) rfl ?_)
  | ((with_reducible show rIsi _ _ _ _); first | refine rd_isi (b := true) (.ty _) (.base (by first | exact .int _ | exact .str _ | exact .bl _ | exact .non | exact .tup (by assumption) | exact .lst (by assumption))) (kit_ty (by decide +kernel)) ?_ | refine rd_isi (b := false) (.ty _) (.base (by first | exact .int _ | exact .str _ | exact .bl _ | exact .non | exact .tup (by assumption) | exact .lst (by assumption))) (kit_ty (by decide +kernel)) ?_)
  | with_reducible refine rd_fld ?_
  | with_reducible refine rd_sfld ?_
  | with_reducible refine rd_meth ?_
  | with_reducible refine rd_make ?_
  | with_reducible refine rd_makeK ?_
  | with_reducible refine rd_U ?_
  | with_reducible refine rd_makeKS ?_
  | with_reducible refine rd_callN ?_
  | with_reducible refine rd_rs ?_
  | with_reducible refine rd_rf ?_
  | with_reducible refine rd_star ?_
  | with_reducible refine rd_callS ?_
  | with_reducible refine rd_for ?_
  | with_reducible refine rd_lc ?_
  | with_reducible refine rd_ilist ?_
  | with_reducible refine rd_itup ?_
  | with_reducible refine rd_irng ?_
  | with_reducible refine rd_izipS ?_
  | with_reducible refine rd_ienum ?_
  | with_reducible refine rd_ienT ?_
  | with_reducible refine rd_next ?_
  | with_reducible refine rd_eq rfl ?_
  | with_reducible refine rd_ne rfl ?_
  | with_reducible refine iteT ?_
  | with_reducible refine iteF ?_
  | with_reducible refine rd_ifnT ?_
  | with_reducible refine rd_ifnF ?_
  | ((with_reducible show rI (fun _ j => (0 : Int) < j) _ _ _ _ _); refine rd_mod (by omega) ?_)
  | with_reducible refine rd_new rfl ?_
  | ((with_reducible show rIxL _ _ (V.int 0) _ _); refine rd_ixL0 (by first | assumption | exact upd_same) ?_)
  | ((with_reducible show rIxL _ _ _ _ _); refine rd_ixL (by first | assumption | exact upd_same) rfl ?_)
  | ((with_reducible show rSetL _ _ _ _ _); refine rd_setL (by first | assumption | exact upd_same) rfl ?_)
  | ((with_reducible show rI CMul _ _ _ _ _); refine rd_mul (by first | exact Or.inl ⟨by omega, by omega⟩ | exact Or.inr ⟨by omega, by omega⟩) ?_)
  | ((with_reducible show tyV _ "list" _ _ ∧ _); refine rd_tyL (by first | assumption | exact upd_same) ?_)
  | ((with_reducible show rIxT _ _ (V.int 0) _ _); refine rd_ixT0 (by first | assumption | exact upd_same) ?_)
  | ((with_reducible show rIxT _ _ _ _ _); refine rd_ixT (by first | assumption | exact upd_same) rfl ?_))
local macro_rules | `(tactic| walk_at "rdn1") => `(tactic| first
  | with_reducible refine rd_seq ?_
  | with_reducible refine rd_asg ?_
  | ((with_reducible show tVar _ _ _ _); refine rd_var rfl ?_)
  | with_reducible refine rd_c ?_
  | with_reducible refine rd_op ?_
  | with_reducible refine rd_I0 ?_
  | with_reducible refine rd_name ?_
  | with_reducible refine rd_ret ?_
  | with_reducible refine rd_ifs ?_
  | with_reducible refine rd_test ?_
  | with_reducible refine rd_tB ?_
  | with_reducible refine rd_bl ?_
  | with_reducible refine rd_drop ?_
  | with_reducible refine rd_nil ?_
  | with_reducible refine rd_cons ?_
  | with_reducible refine rd_call ?_
  | with_reducible refine rd_cb ?_
  | with_reducible refine rd_tup ?_
  | with_reducible refine rd_lst ?_
  | with_reducible refine rd_and ?_
  | with_reducible refine rd_or ?_
  | with_reducible refine rd_not ?_
  | with_reducible refine rd_notV ?_
  | with_reducible refine rd_chain ?_
  | with_reducible refine rd_un ?_
  | with_reducible refine rd_isN ?_
  | with_reducible refine rd_bm ?_
  | with_reducible refine rd_bm0 ?_
  | with_reducible refine rd_gsub ?_
  | with_reducible refine rd_sl ?_
  | with_reducible refine rd_gt ?_
  | with_reducible refine rd_yes ?_
  | with_reducible refine rd_gcons ?_
  | with_reducible refine rd_gnil ?_
  | with_reducible refine rd_part ?_
  | with_reducible refine rd_nopart ?_
  | ((with_reducible show gTup _ _ _ _ _ _ _); refine rd_gtup (by first | assumption | exact upd_same) rfl ?_)
  | ((with_reducible show gLst _ _ _ _ _ _ _); refine rd_glst (by first | assumption | exact upd_same) rfl ?_)
  | ((with_reducible show rIsi _ _ _ _); first | refine rd_isi (b := true) (.ty _) (.base (by first | exact .int _ | exact .str _ | exact .bl _ | exact .non | exact .tup (by assumption) | exact .lst (by assumption))) (kit_ty (by decide +kernel)) ?_ | refine rd_isi (b := false) (.ty _) (.base (by first | exact .int _ | exact .str _ | exact .bl _ | exact .non | exact .tup (by assumption) | exact .lst (by assumption))) (kit_ty (by decide +kernel)) ?_)
  | with_reducible refine rd_fld ?_
  | with_reducible refine rd_sfld ?_
  | with_reducible refine rd_meth ?_
  | with_reducible refine rd_make ?_
  | with_reducible refine rd_makeK ?_
  | with_reducible refine rd_U ?_
  | with_reducible refine rd_makeKS ?_
  | with_reducible refine rd_callN ?_
  | with_reducible refine rd_rs ?_
  | with_reducible refine rd_rf ?_
  | with_reducible refine rd_star ?_
  | with_reducible refine rd_callS ?_
  | with_reducible refine rd_for ?_
  | with_reducible refine rd_lc ?_
  | with_reducible refine rd_ilist ?_
  | with_reducible refine rd_itup ?_
  | with_reducible refine rd_irng ?_
  | with_reducible refine rd_izipS ?_
  | with_reducible refine rd_ienum ?_
  | with_reducible refine rd_ienT ?_
  | with_reducible refine rd_next ?_
  | with_reducible refine rd_eq rfl ?_
  | with_reducible refine rd_ne rfl ?_
  | with_reducible refine iteT ?_
  | with_reducible refine iteF ?_
  | with_reducible refine rd_ifnT ?_
  | with_reducible refine rd_ifnF ?_
  | ((with_reducible show rI (fun _ j => (0 : Int) < j) _ _ _ _ _); refine rd_mod (by omega) ?_)
  | with_reducible refine rd_new rfl ?_
  | ((with_reducible show rIxL _ _ (V.int 0) _ _); refine rd_ixL0 (by first | assumption | exact upd_same) ?_)
  | ((with_reducible show rIxL _ _ _ _ _); refine rd_ixL (by first | assumption | exact upd_same) rfl ?_)
  | ((with_reducible show rSetL _ _ _ _ _); refine rd_setL (by first | assumption | exact upd_same) rfl ?_)
  | ((with_reducible show rI CMul _ _ _ _ _); refine rd_mul (by first | exact Or.inl ⟨by omega, by omega⟩ | exact Or.inr ⟨by omega, by omega⟩) ?_)
  | ((with_reducible show tyV _ "list" _ _ ∧ _); refine rd_tyL (by first | assumption | exact upd_same) ?_)
  | ((with_reducible show rIxT _ _ (V.int 0) _ _); refine rd_ixT0 (by first | assumption | exact upd_same) ?_)
  | ((with_reducible show rIxT _ _ _ _ _); refine rd_ixT (by first | assumption | exact upd_same) rfl ?_))
local macro_rules | `(tactic| walk_at "rd") => `(tactic| (repeat (first | walk_at "rd1" | dsimp only)))
local macro_rules | `(tactic| walk_at "rds") => `(tactic| (dsimp only [cxOf, Cx.nox, Cx.wish, Cx.blk, L2.start]; walk_at "rd"))
local macro_rules | `(tactic| walk_at "rdn") => `(tactic| (repeat (first | walk_at "rdn1" | dsimp only)))
section
variable {P : Program} {w : World} {K : PySem.W.Frag} {mg : Str → Option Value} {base : Heap}

/-- a text that an error may be made with -/
def RblS (v : V) : Prop := ∃ z : Str, v = .str z ∧ (∀ c ∈ z.cps.toList, c < 16 ^ 8) ∧ z.length ≤ 100000
def tFmtS (te : TE) : TE := fun σ H Q => te σ H fun x H1 => RblS x ∧ ∀ y : Str, y.length ≤ 1000002 → Q (.str y) H1
theorem pe_fmtS {X : Cx} {e : Expr} {te : TE} {pos : Pos} (he : PE X e te) : PE X (.FormattedValue e 114 none pos) (tFmtS te) := by
  refine ⟨fun pins s σ H Q I h => ?_⟩
  refine wpAny_FormattedValue_repr (thn (he.run pins s σ H _ I h) fun v s1 ⟨x, H1, I1, r1, ⟨z, hx, hc, hz⟩, q⟩ => ?_)
  subst hx
  obtain ⟨t, rfl⟩ := r1
  have l := StrLaws.reprText_len z hc
  have l2 : (reprText z).length ≤ 1000002 := by omega
  have l3 : (reprText z).length ≤ sizeLine := by rw [sizeLine_eq]; omega
  have q2 := q (reprText z) l2
  exact pyReprObj_str (wpAny_formatField_str ⟨.str _, H1, I1.tok _, ⟨_, rfl⟩, q2⟩ ⟨.str _, H1, (I1.tok _).tok _, ⟨_, rfl⟩, q2⟩ l3) l3
/-! ### the refusals, made with a text -/
def spRS (K : PySem.W.Frag) : Sp := fun vs H Q _ => ∃ (a C : Addr) (v : V), vs = [.ref a, v] ∧ RblS v ∧ OexC K C ∧ PySem.W.findIn K (.ref C) "what" = some none ∧ H a = some (exo a C none) ∧
  ∀ d, H d = none → d ≠ a → Q .non (upd (upd H d (exd d [("what", v)])) a (exo a C (some d)))
structure ExkS (P : Program) (w : World) (K : PySem.W.Frag) (mg : Str → Option Value) (base : Heap) (x : Str) (C : Addr) : Prop where
  oex : OexC K C
  wh : PySem.W.findIn K (.ref C) "what" = some none
  mgx : mg x = some (.ref C)
  xf : XfC K C
  ini : ∃ f fd, PySem.W.findIn K (.ref C) "__init__" = some (some (.ref f)) ∧ PySem.W.typeIn K (.ref f) = some (.type "function") ∧ Binds K fd ["self", "what"] [] ∧ FnOk P w K mg base CX0 2 f fd ["self", "what"] (spRS K)
def tRsS (K : PySem.W.Frag) (C : Addr) (W : WX) (te : TE) : TS := fun _ σ H => tMkO C (spRS K) [] (tCons te tNil) σ H fun cls d H' => W cls d σ H'
theorem ps_raiseS {X : Cx} {W : WX} {C : Addr} {x : Str} {e : Expr} {te : TE} {p pos pos' : Pos} (E : ExkS X.prog X.w X.K X.mg X.base x C) (hc : X.calm = true) (tk : Takes X W) (hr : Room 3 X.A) (hg : Gl X x) (he : PE X e te) (hdb : (x == ("__debug__" : Str)) = false := by decide)
    (hst : starEach [e] X.env = (false, eval e X.env) :: starEach [] X.env := by rfl) (hpl : (backTo pos (starEach [] X.env)).any (·.1) = false := by rfl) : PS X (.Raise (some (.Call (.Name x p) [e] [] pos)) none pos') (tRsS X.K C W te) := by
  obtain ⟨f, fd, i1, i2, b, F⟩ := E.ini
  exact ps_raise hc tk (pmk_oex E.oex i1 i2 F hr b .nil pass0 hg E.mgx (pa_cons he pa_nil hst) hdb hst hpl)
theorem rd_rsS {σ : L2.St} {H : Hp} {K : PySem.W.Frag} {D : Ends} {C : Addr} {W : WX} {te : TE} (h : te σ H fun v H1 => [v].length ≤ 1000 ∧ ∀ a, H1 a = none → spRS K (.ref a :: ([v] ++ [])) (upd H1 a (exo a C none))
  (fun u H2 => u = .non ∧ ∃ (d : Addr) (fs : List (Str × V)), H2 a = some (exo a C (some d)) ∧ H2 d = some (exd d fs) ∧ H1 d = none ∧ W (.ref C) (some d) σ (upd (del H2 a) d (.xd fs))) (fun _ _ _ => False)) : tRsS K C W te D σ H := h
theorem rd_mkS {K : PySem.W.Frag} {H : Hp} {C : Addr} {v : V} {R : Option Addr → Hp → Prop} (T : OexC K C) (hw : PySem.W.findIn K (.ref C) "what" = some none) (hv : RblS v) (q : ∀ d, H d = none → R (some d) (upd H d (.xd [("what", v)]))) :
    [v].length ≤ 1000 ∧ ∀ a, H a = none → spRS K (.ref a :: ([v] ++ [])) (upd H a (exo a C none)) (fun u H2 => u = .non ∧ ∃ (d : Addr) (fs : List (Str × V)), H2 a = some (exo a C (some d)) ∧ H2 d = some (exd d fs) ∧ H d = none ∧ R (some d) (upd (del H2 a) d (.xd fs))) (fun _ _ _ => False) := by
  refine ⟨by show 1 ≤ 1000; decide, fun a ha => ⟨a, C, v, rfl, hv, T, hw, upd_same, fun d hd ne => ⟨rfl, d, _, upd_same, by rw [upd_ne ne, upd_same], ?_, ?_⟩⟩⟩
  · rw [upd_ne ne] at hd
    exact hd
  · have hd' : H d = none := by rw [upd_ne ne] at hd; exact hd
    have e : upd (del (upd (upd (upd H a (exo a C none)) d (exd d [("what", v)])) a (exo a C (some d))) a) d (.xd [("what", v)]) = upd H d (.xd [("what", v)]) := by
      funext b
      by_cases h1 : b = d
      · rw [h1, upd_same, upd_same]
      · rw [upd_ne h1, upd_ne h1]
        by_cases h2 : b = a
        · rw [h2, del_same, ha]
        · rw [del_ne h2, upd_ne h2, upd_ne h1, upd_ne h2]
    rw [e]
    exact q d hd'

theorem ok_REinitS {f : Addr} {fd : FuncData} (F : Fun K "__init__" "RingError.__init__" s_RingError__init f fd) (gVE : mg "ValueError" = none) (vV : PySem.W.findCls K (.type "ValueError") (.type "type") "__init__" = some (.val (.builtin "ValueError.__init__"))) : FnOk P w K mg base CX0 1 f fd ["self", "what"] (spRS K) := by
  refine F.ok sc_RingError__init (fun vs H Q E h => ?_) (fun cdv A outer s H vs Q E hr h => ?_)
  · obtain ⟨a, C, v, rfl, _⟩ := h
    rfl
  · obtain ⟨a, C, v, rfl, hi, T, hw, ha, k⟩ := h
    refine ⟨_, (pss_cons (ps_expr (pe_veinit rfl gVE vV (pa_cons (pv 0) (pa_cons (pe_joined (.cons pe_str (.cons (pe_fmtS (pv 1)) .nil))) pa_nil))))
 (pss_one (ps_ost (pv 0) (pv 1)))), ?_⟩
    walk_at "rds"
    refine ⟨_, rfl, _, rfl, by decide +kernel, _, rfl, hi, fun y hy => ⟨_, rfl, ?_, a, C, _, rfl, by show 1 ≤ 1000; decide, T, ha, ?_⟩⟩
    · rw [Str.length_append]
      have h9 : ((Str.empty ++ "refused: " : Str)).length = 9 := by decide +kernel
      rw [h9, sizeLine_eq]
      exact Nat.le_trans (Nat.add_le_add_left hy 9) (by decide)
    · refine ⟨_, rfl, _, rfl, a, C, rfl, T, hw, .inl ⟨ha, fun dx hd ne => ?_⟩⟩
      exact k dx hd ne
theorem ok_NoTextS {f f0 : Addr} {fd fd0 : FuncData} (U : UbC K mg "RingError" "__init__" f0) (F0 : FnOk P w K mg base CX0 1 f0 fd0 ["self", "what"] (spRS K)) (b0 : Binds K fd0 ["self", "what"] []) (F : Fun K "__init__" "NoText.__init__" s_NoText__init f fd) : FnOk P w K mg base CX0 2 f fd ["self", "what"] (spRS K) := by
  refine F.ok sc_NoText__init (fun vs H Q E h => ?_) (fun cdv A outer s H vs Q E hr h => ?_)
  · obtain ⟨a, C, v, rfl, _⟩ := h
    rfl
  · obtain ⟨a, C, v, rfl, hv, T, hw, ha, k⟩ := h
    refine ⟨_, (pss_one (ps_expr (pe_ubm U rfl F0 b0 (hr.mono (by omega)) (pa_cons (pv 0) (pa_cons (pv 1) pa_nil))))), ?_⟩
    walk_at "rds"
    exact ⟨a, C, v, rfl, hv, T, hw, ha, k⟩

end
end Rg

namespace Rg
open PySem PySem.Spec L2
local macro_rules | `(tactic| walk_at "rd1") => `(tactic| first
  | with_reducible refine rd_seq ?_
  | with_reducible refine rd_asg ?_
  | ((with_reducible show tVar _ _ _ _); refine rd_var rfl ?_)
  | with_reducible refine rd_c ?_
  | with_reducible refine rd_op ?_
  | with_reducible refine rd_I0 ?_
  | with_reducible refine rd_name ?_
  | with_reducible refine rd_ret ?_
  | with_reducible refine rd_ifs ?_
  | with_reducible refine rd_test ?_
  | with_reducible refine rd_tB ?_
  | with_reducible refine rd_bl ?_
  | with_reducible refine rd_drop ?_
  | with_reducible refine rd_nil ?_
  | with_reducible refine rd_cons ?_
  | with_reducible refine rd_call ?_
  | with_reducible refine rd_cb ?_
  | with_reducible refine rd_tup ?_
  | with_reducible refine rd_lst ?_
  | with_reducible refine rd_and ?_
  | with_reducible refine rd_or ?_
  | with_reducible refine rd_not ?_
  | with_reducible refine rd_andV ?_
  | with_reducible refine rd_orV ?_
  | with_reducible refine rd_notV ?_
  | with_reducible refine rd_chain ?_
  | with_reducible refine rd_un ?_
  | with_reducible refine rd_isN ?_
  | with_reducible refine rd_bm ?_
  | with_reducible refine rd_bm0 ?_
  | with_reducible refine rd_gsub ?_
  | with_reducible refine rd_sl ?_
  | with_reducible refine rd_gt ?_
  | with_reducible refine rd_yes ?_
  | with_reducible refine rd_gcons ?_
  | with_reducible refine rd_gnil ?_
  | with_reducible refine rd_part ?_
  | with_reducible refine rd_nopart ?_
  | ((with_reducible show gTup _ _ _ _ _ _ _); refine rd_gtup (by first | assumption | exact upd_same) rfl ?_)
  | ((with_reducible show gLst _ _ _ _ _ _ _); refine rd_glst (by first | assumption | exact upd_same) rfl ?_)
  | ((with_reducible show rIsi _ _ _ _); first | refine rd_isi (b := true) (.ty _) (.base (by first | exact .int _ | exact .str _ | exact .bl _ | exact .non | exact .tup (by assumption) | exact .lst (by assumption))) (kit_ty (by decide +kernel)) ?_ | refine rd_isi (b := false) (.ty _) (.base (by first | exact .int _ | exact .str _ | exact .bl _ | exact .non | exact .tup (by assumption) | exact .lst (by assumption))) (kit_ty (by decide +kernel)) ?_)
  | with_reducible refine rd_fld ?_
  | with_reducible refine rd_sfld ?_
  | with_reducible refine rd_meth ?_
  | with_reducible refine rd_make ?_
  | with_reducible refine rd_makeK ?_
  | with_reducible refine rd_U ?_
  | with_reducible refine rd_makeKS ?_
  | with_reducible refine rd_callN ?_
  | with_reducible refine rd_rs ?_
  | with_reducible refine rd_rf ?_
  | with_reducible refine rd_star ?_
  | with_reducible refine rd_callS ?_
  | with_reducible refine rd_for ?_
  | with_reducible refine rd_lc ?_
  | with_reducible refine rd_ilist ?_
  | with_reducible refine rd_itup ?_
  | with_reducible refine rd_irng ?_
  | with_reducible refine rd_izipS ?_
  | with_reducible refine rd_ienum ?_
  | with_reducible refine rd_ienT ?_
  | with_reducible refine rd_next ?_
  | with_reducible refine rd_eq rfl ?_
  | with_reducible refine rd_ne rfl ?_
  | with_reducible refine iteT ?_
  | with_reducible refine iteF ?_
  | with_reducible refine rd_ifnT ?_
  | with_reducible refine rd_ifnF ?_
  | ((with_reducible show rI (fun _ j => (0 : Int) < j) _ _ _ _ _); refine rd_mod (by omega) ?_)
  | with_reducible refine rd_new rfl ?_
  | ((with_reducible show rIxL _ _ (V.int 0) _ _); refine rd_ixL0 (by first | assumption | exact upd_same) ?_)
  | ((with_reducible show rIxL _ _ _ _ _); refine rd_ixL (by first | assumption | exact upd_same) rfl ?_)
  | ((with_reducible show rSetL _ _ _ _ _); refine rd_setL (by first | assumption | exact upd_same) rfl ?_)
  | ((with_reducible show rI CMul _ _ _ _ _); refine rd_mul (by first | exact Or.inl ⟨by omega, by omega⟩ | exact Or.inr ⟨by omega, by omega⟩) ?_)
  | ((with_reducible show tyV _ "list" _ _ ∧ _); refine rd_tyL (by first | assumption | exact upd_same) ?_)
  | ((with_reducible show rIxT _ _ (V.int 0) _ _); refine rd_ixT0 (by first | assumption | exact upd_same) ?_)
  | ((with_reducible show rIxT _ _ _ _ _); refine rd_ixT (by first | assumption | exact upd_same) rfl ?_))
local macro_rules | `(tactic| walk_at "rdn1") => `(tactic| first
  | with_reducible refine rd_seq ?_
  | with_reducible refine rd_asg ?_
  | ((with_reducible show tVar _ _ _ _); refine rd_var rfl ?_)
  | with_reducible refine rd_c ?_
  | with_reducible refine rd_op ?_
  | with_reducible refine rd_I0 ?_
  | with_reducible refine rd_name ?_
  | with_reducible refine rd_ret ?_
  | with_reducible refine rd_ifs ?_
  | with_reducible refine rd_test ?_
  | with_reducible refine rd_tB ?_
  | with_reducible refine rd_bl ?_
  | with_reducible refine rd_drop ?_
  | with_reducible refine rd_nil ?_
  | with_reducible refine rd_cons ?_
  | with_reducible refine rd_call ?_
  | with_reducible refine rd_cb ?_
  | with_reducible refine rd_tup ?_
  | with_reducible refine rd_lst ?_
  | with_reducible refine rd_and ?_
  | with_reducible refine rd_or ?_
  | with_reducible refine rd_not ?_
  | with_reducible refine rd_notV ?_
  | with_reducible refine rd_chain ?_
  | with_reducible refine rd_un ?_
  | with_reducible refine rd_isN ?_
  | with_reducible refine rd_bm ?_
  | with_reducible refine rd_bm0 ?_
  | with_reducible refine rd_gsub ?_
  | with_reducible refine rd_sl ?_
  | with_reducible refine rd_gt ?_
  | with_reducible refine rd_yes ?_
  | with_reducible refine rd_gcons ?_
  | with_reducible refine rd_gnil ?_
  | with_reducible refine rd_part ?_
  | with_reducible refine rd_nopart ?_
  | ((with_reducible show gTup _ _ _ _ _ _ _); refine rd_gtup (by first | assumption | exact upd_same) rfl ?_)
  | ((with_reducible show gLst _ _ _ _ _ _ _); refine rd_glst (by first | assumption | exact upd_same) rfl ?_)
  | ((with_reducible show rIsi _ _ _ _); first | refine rd_isi (b := true) (.ty _) (.base (by first | exact .int _ | exact .str _ | exact .bl _ | exact .non | exact .tup (by assumption) | exact .lst (by assumption))) (kit_ty (by decide +kernel)) ?_ | refine rd_isi (b := false) (.ty _) (.base (by first | exact .int _ | exact .str _ | exact .bl _ | exact .non | exact .tup (by assumption) | exact .lst (by assumption))) (kit_ty (by decide +kernel)) ?_)
  | with_reducible refine rd_fld ?_
  | with_reducible refine rd_sfld ?_
  | with_reducible refine rd_meth ?_
  | with_reducible refine rd_make ?_
  | with_reducible refine rd_makeK ?_
  | with_reducible refine rd_U ?_
  | with_reducible refine rd_makeKS ?_
  | with_reducible refine rd_callN ?_
  | with_reducible refine rd_rs ?_
  | with_reducible refine rd_rf ?_
  | with_reducible refine rd_star ?_
  | with_reducible refine rd_callS ?_
  | with_reducible refine rd_for ?_
  | with_reducible refine rd_lc ?_
  | with_reducible refine rd_ilist ?_
  | with_reducible refine rd_itup ?_
  | with_reducible refine rd_irng ?_
  | with_reducible refine rd_izipS ?_
  | with_reducible refine rd_ienum ?_
  | with_reducible refine rd_ienT ?_
  | with_reducible refine rd_next ?_
  | with_reducible refine rd_eq rfl ?_
  | with_reducible refine rd_ne rfl ?_
  | with_reducible refine iteT ?_
  | with_reducible refine iteF ?_
  | with_reducible refine rd_ifnT ?_
  | with_reducible refine rd_ifnF ?_
  | ((with_reducible show rI (fun _ j => (0 : Int) < j) _ _ _ _ _); refine rd_mod (by omega) ?_)
  | with_reducible refine rd_new rfl ?_
  | ((with_reducible show rIxL _ _ (V.int 0) _ _); refine rd_ixL0 (by first | assumption | exact upd_same) ?_)
  | ((with_reducible show rIxL _ _ _ _ _); refine rd_ixL (by first | assumption | exact upd_same) rfl ?_)
  | ((with_reducible show rSetL _ _ _ _ _); refine rd_setL (by first | assumption | exact upd_same) rfl ?_)
  | ((with_reducible show rI CMul _ _ _ _ _); refine rd_mul (by first | exact Or.inl ⟨by omega, by omega⟩ | exact Or.inr ⟨by omega, by omega⟩) ?_)
  | ((with_reducible show tyV _ "list" _ _ ∧ _); refine rd_tyL (by first | assumption | exact upd_same) ?_)
  | ((with_reducible show rIxT _ _ (V.int 0) _ _); refine rd_ixT0 (by first | assumption | exact upd_same) ?_)
  | ((with_reducible show rIxT _ _ _ _ _); refine rd_ixT (by first | assumption | exact upd_same) rfl ?_))
local macro_rules | `(tactic| walk_at "rd") => `(tactic| (repeat (first | walk_at "rd1" | dsimp only)))
local macro_rules | `(tactic| walk_at "rds") => `(tactic| (dsimp only [cxOf, Cx.nox, Cx.wish, Cx.blk, L2.start]; walk_at "rd"))
local macro_rules | `(tactic| walk_at "rdn") => `(tactic| (repeat (first | walk_at "rdn1" | dsimp only)))
section
variable {P : Program} {w : World} {K : PySem.W.Frag} {mg : Str → Option Value} {base : Heap}

theorem hot_REinitS {f : Addr} {fd : FuncData} (F : Fun K "__init__" "RingError.__init__" s_RingError__init f fd) (gVE : mg "ValueError" = none) (vV : PySem.W.findCls K (.type "ValueError") (.type "type") "__init__" = some (.val (.builtin "ValueError.__init__"))) : L2H.FnH P w K mg base CX0 1 f fd ["self", "what"] (spRS K) := by
  refine Fun.okH F sc_RingError__init (fun vs H Q E h => ?_) (fun cdv A outer s H vs Q E p ht hr h => ?_)
  · obtain ⟨a, C, v, rfl, _⟩ := h
    rfl
  · obtain ⟨a, C, v, rfl, hi, T, hw, ha, k⟩ := h
    refine ⟨_, (pss_cons (ps_expr (pe_veinit rfl gVE vV (pa_cons (pv 0) (pa_cons (pe_joined (.cons pe_str (.cons (pe_fmtS (pv 1)) .nil))) pa_nil))))
 (pss_one (ps_ost (pv 0) (pv 1)))), ?_⟩
    walk_at "rds"
    refine ⟨_, rfl, _, rfl, by decide +kernel, _, rfl, hi, fun y hy => ⟨_, rfl, ?_, a, C, _, rfl, by show 1 ≤ 1000; decide, T, ha, ?_⟩⟩
    · rw [Str.length_append]
      have h9 : ((Str.empty ++ "refused: " : Str)).length = 9 := by decide +kernel
      rw [h9, sizeLine_eq]
      exact Nat.le_trans (Nat.add_le_add_left hy 9) (by decide)
    · refine ⟨_, rfl, _, rfl, a, C, rfl, T, hw, .inl ⟨ha, fun dx hd ne => ?_⟩⟩
      exact k dx hd ne
theorem hot_NoTextS {f f0 : Addr} {fd fd0 : FuncData} (U : UbC K mg "RingError" "__init__" f0) (F0 : L2H.FnH P w K mg base CX0 1 f0 fd0 ["self", "what"] (spRS K)) (b0 : Binds K fd0 ["self", "what"] []) (F : Fun K "__init__" "NoText.__init__" s_NoText__init f fd) : L2H.FnH P w K mg base CX0 2 f fd ["self", "what"] (spRS K) := by
  refine Fun.okH F sc_NoText__init (fun vs H Q E h => ?_) (fun cdv A outer s H vs Q E p ht hr h => ?_)
  · obtain ⟨a, C, v, rfl, _⟩ := h
    rfl
  · obtain ⟨a, C, v, rfl, hv, T, hw, ha, k⟩ := h
    refine ⟨_, (pss_one (ps_expr (pe_ubmH U rfl F0 ⟨p, ⟨ht.1, ht.2⟩, List.mem_cons_self⟩ b0 (hr.mono (by omega)) (fun _ _ _ _ _ _ _ h => h.elim) (pa_cons (pv 0) (pa_cons (pv 1) pa_nil))))), ?_⟩
    walk_at "rds"
    exact ⟨a, C, v, rfl, hv, T, hw, ha, k⟩
/-- an error made with a text, where nothing is handled (its context None) and in an except suite -/
structure ExkT (P : Program) (w : World) (K : PySem.W.Frag) (mg : Str → Option Value) (base : Heap) (x : Str) (C : Addr) : Prop where
  oex : OexC K C
  wh : PySem.W.findIn K (.ref C) "what" = some none
  mgx : mg x = some (.ref C)
  xf : XfC K C
  ini : ∃ f fd, PySem.W.findIn K (.ref C) "__init__" = some (some (.ref f)) ∧ PySem.W.typeIn K (.ref f) = some (.type "function") ∧ Binds K fd ["self", "what"] [] ∧ FnOk P w K mg base CX0 2 f fd ["self", "what"] (spRS K) ∧ L2H.FnH P w K mg base CX0 2 f fd ["self", "what"] (spRS K)
theorem ps_raiseT {X : Cx} {W : WX} {C : Addr} {x : Str} {e : Expr} {te : TE} {p pos pos' : Pos} (E : ExkT X.prog X.w X.K X.mg X.base x C) (hc : X.calm = true) (tk : L2N.Takes X W) (hr : Room 3 X.A) (hg : Gl X x) (he : PE X e te) (hdb : (x == ("__debug__" : Str)) = false := by decide)
    (hst : starEach [e] X.env = (false, eval e X.env) :: starEach [] X.env := by rfl) (hpl : (backTo pos (starEach [] X.env)).any (·.1) = false := by rfl) : PS X (.Raise (some (.Call (.Name x p) [e] [] pos)) none pos') (tRsS X.K C W te) := by
  obtain ⟨f, fd, i1, i2, b, F, _⟩ := E.ini
  exact L2N.ps_raise hc tk (pmk_oexN E.oex i1 i2 F hr b pass0 hg E.mgx (pa_cons he pa_nil hst) hdb hst hpl)
/-- raise X(..) from None, in an except suite -/
theorem ps_raiseTH {X : Cx} {K : PySem.W.Frag} {W : WX} {C : Addr} {x : Str} {e : Expr} {te : TE} {p pos pos' cpos : Pos} {j : Nat} (E : ExkT X.prog X.w K X.mg X.base x C) (hc : L2H.HotC X) (tk : L2.Takes X W) (hr : L2H.RoomH 3 X.A) (hg : Gl X x) (he : PE X e te) (hK : X.K = K := by rfl) (hdb : (x == ("__debug__" : Str)) = false := by decide)
    (hst : starEach [e] X.env = (false, eval e X.env) :: starEach [] X.env := by rfl) (hpl : (backTo pos (starEach [] X.env)).any (·.1) = false := by rfl) : PS X (.Raise (some (.Call (.Name x p) [e] [] pos)) (some (.Constant .none j cpos)) pos') (tRsS K C W te) := by
  subst hK
  obtain ⟨f, fd, i1, i2, b, _, F⟩ := E.ini
  exact L2H.ps_raiseHN hc tk (L2H.pmk5_oexH E.oex i1 i2 F hr hc b pass0 hg E.mgx (pa_cons he pa_nil hst) hdb hst hpl)

end
end Rg

namespace Rg
open PySem PySem.Spec L2
local macro_rules | `(tactic| walk_at "rd1") => `(tactic| first
  | with_reducible refine rd_seq ?_
  | with_reducible refine rd_asg ?_
  | ((with_reducible show tVar _ _ _ _); refine rd_var rfl ?_)
  | with_reducible refine rd_c ?_
  | with_reducible refine rd_op ?_
  | with_reducible refine rd_I0 ?_
  | with_reducible refine rd_name ?_
  | with_reducible refine rd_ret ?_
  | with_reducible refine rd_ifs ?_
  | with_reducible refine rd_test ?_
  | with_reducible refine rd_tB ?_
  | with_reducible refine rd_bl ?_
  | with_reducible refine rd_drop ?_
  | with_reducible refine rd_nil ?_
  | with_reducible refine rd_cons ?_
  | with_reducible refine rd_call ?_
  | with_reducible refine rd_cb ?_
  | with_reducible refine rd_tup ?_
  | with_reducible refine rd_lst ?_
  | with_reducible refine rd_and ?_
  | with_reducible refine rd_or ?_
  | with_reducible refine rd_not ?_
  | with_reducible refine rd_andV ?_
  | with_reducible refine rd_orV ?_
  | with_reducible refine rd_notV ?_
  | with_reducible refine rd_chain ?_
  | with_reducible refine rd_un ?_
  | with_reducible refine rd_isN ?_
  | with_reducible refine rd_bm ?_
  | with_reducible refine rd_bm0 ?_
  | with_reducible refine rd_gsub ?_
  | with_reducible refine rd_sl ?_
  | with_reducible refine rd_gt ?_
  | with_reducible refine rd_yes ?_
  | with_reducible refine rd_gcons ?_
  | with_reducible refine rd_gnil ?_
  | with_reducible refine rd_part ?_
  | with_reducible refine rd_nopart ?_
  | ((with_reducible show gTup _ _ _ _ _ _ _); refine rd_gtup (by first | assumption | exact upd_same) rfl ?_)
  | ((with_reducible show gLst _ _ _ _ _ _ _); refine rd_glst (by first | assumption | exact upd_same) rfl ?_)
  | ((with_reducible show rIsi _ _ _ _); first | refine rd_isi (b := true) (.ty _) (.base (by first | exact .int _ | exact .str _ | exact .bl _ | exact .non | exact .tup (by assumption) | exact .lst (by assumption))) (kit_ty (by decide +kernel)) ?_ | refine rd_isi (b := false) (.ty _) (.base (by first | exact .int _ | exact .str _ | exact .bl _ | exact .non | exact .tup (by assumption) | exact .lst (by assumption))) (kit_ty (by decide +kernel)) ?_)
  | with_reducible refine rd_fld ?_
  | with_reducible refine rd_sfld ?_
  | with_reducible refine rd_meth ?_
  | with_reducible refine rd_make ?_
  | with_reducible refine rd_makeK ?_
  | with_reducible refine rd_U ?_
  | with_reducible refine rd_makeKS ?_
  | with_reducible refine rd_callN ?_
  | with_reducible refine rd_rs ?_
  | with_reducible refine rd_rf ?_
  | with_reducible refine rd_star ?_
  | with_reducible refine rd_callS ?_
  | with_reducible refine rd_for ?_
  | with_reducible refine rd_lc ?_
  | with_reducible refine rd_ilist ?_
  | with_reducible refine rd_itup ?_
  | with_reducible refine rd_irng ?_
  | with_reducible refine rd_izipS ?_
  | with_reducible refine rd_ienum ?_
  | with_reducible refine rd_ienT ?_
  | with_reducible refine rd_next ?_
  | with_reducible refine rd_eq rfl ?_
  | with_reducible refine rd_ne rfl ?_
  | with_reducible refine iteT ?_
  | with_reducible refine iteF ?_
  | with_reducible refine rd_ifnT ?_
  | with_reducible refine rd_ifnF ?_
  | ((with_reducible show rI (fun _ j => (0 : Int) < j) _ _ _ _ _); refine rd_mod (by omega) ?_)
  | with_reducible refine rd_new rfl ?_
  | ((with_reducible show rIxL _ _ (V.int 0) _ _); refine rd_ixL0 (by first | assumption | exact upd_same) ?_)
  | ((with_reducible show rIxL _ _ _ _ _); refine rd_ixL (by first | assumption | exact upd_same) rfl ?_)
  | ((with_reducible show rSetL _ _ _ _ _); refine rd_setL (by first | assumption | exact upd_same) rfl ?_)
  | ((with_reducible show rI CMul _ _ _ _ _); refine rd_mul (by first | exact Or.inl ⟨by omega, by omega⟩ | exact Or.inr ⟨by omega, by omega⟩) ?_)
  | ((with_reducible show tyV _ "list" _ _ ∧ _); refine rd_tyL (by first | assumption | exact upd_same) ?_)
  | ((with_reducible show rIxT _ _ (V.int 0) _ _); refine rd_ixT0 (by first | assumption | exact upd_same) ?_)
  | ((with_reducible show rIxT _ _ _ _ _); refine rd_ixT (by first | assumption | exact upd_same) rfl ?_))
local macro_rules | `(tactic| walk_at "rdn1") => `(tactic| first
  | with_reducible refine rd_seq ?_
  | with_reducible refine rd_asg ?_
  | ((with_reducible show tVar _ _ _ _); refine rd_var rfl ?_)
  | with_reducible refine rd_c ?_
  | with_reducible refine rd_op ?_
  | with_reducible refine rd_I0 ?_
  | with_reducible refine rd_name ?_
  | with_reducible refine rd_ret ?_
  | with_reducible refine rd_ifs ?_
  | with_reducible refine rd_test ?_
  | with_reducible refine rd_tB ?_
  | with_reducible refine rd_bl ?_
  | with_reducible refine rd_drop ?_
  | with_reducible refine rd_nil ?_
  | with_reducible refine rd_cons ?_
  | with_reducible refine rd_call ?_
  | with_reducible refine rd_cb ?_
  | with_reducible refine rd_tup ?_
  | with_reducible refine rd_lst ?_
  | with_reducible refine rd_and ?_
  | with_reducible refine rd_or ?_
  | with_reducible refine rd_not ?_
  | with_reducible refine rd_notV ?_
  | with_reducible refine rd_chain ?_
  | with_reducible refine rd_un ?_
  | with_reducible refine rd_isN ?_
  | with_reducible refine rd_bm ?_
  | with_reducible refine rd_bm0 ?_
  | with_reducible refine rd_gsub ?_
  | with_reducible refine rd_sl ?_
  | with_reducible refine rd_gt ?_
  | with_reducible refine rd_yes ?_
  | with_reducible refine rd_gcons ?_
  | with_reducible refine rd_gnil ?_
  | with_reducible refine rd_part ?_
  | with_reducible refine rd_nopart ?_
  | ((with_reducible show gTup _ _ _ _ _ _ _); refine rd_gtup (by first | assumption | exact upd_same) rfl ?_)
  | ((with_reducible show gLst _ _ _ _ _ _ _); refine rd_glst (by first | assumption | exact upd_same) rfl ?_)
  | ((with_reducible show rIsi _ _ _ _); first | refine rd_isi (b := true) (.ty _) (.base (by first | exact .int _ | exact .str _ | exact .bl _ | exact .non | exact .tup (by assumption) | exact .lst (by assumption))) (kit_ty (by decide +kernel)) ?_ | refine rd_isi (b := false) (.ty _) (.base (by first | exact .int _ | exact .str _ | exact .bl _ | exact .non | exact .tup (by assumption) | exact .lst (by assumption))) (kit_ty (by decide +kernel)) ?_)
  | with_reducible refine rd_fld ?_
  | with_reducible refine rd_sfld ?_
  | with_reducible refine rd_meth ?_
  | with_reducible refine rd_make ?_
  | with_reducible refine rd_makeK ?_
  | with_reducible refine rd_U ?_
  | with_reducible refine rd_makeKS ?_
  | with_reducible refine rd_callN ?_
  | with_reducible refine rd_rs ?_
  | with_reducible refine rd_rf ?_
  | with_reducible refine rd_star ?_
  | with_reducible refine rd_callS ?_
  | with_reducible refine rd_for ?_
  | with_reducible refine rd_lc ?_
  | with_reducible refine rd_ilist ?_
  | with_reducible refine rd_itup ?_
  | with_reducible refine rd_irng ?_
  | with_reducible refine rd_izipS ?_
  | with_reducible refine rd_ienum ?_
  | with_reducible refine rd_ienT ?_
  | with_reducible refine rd_next ?_
  | with_reducible refine rd_eq rfl ?_
  | with_reducible refine rd_ne rfl ?_
  | with_reducible refine iteT ?_
  | with_reducible refine iteF ?_
  | with_reducible refine rd_ifnT ?_
  | with_reducible refine rd_ifnF ?_
  | ((with_reducible show rI (fun _ j => (0 : Int) < j) _ _ _ _ _); refine rd_mod (by omega) ?_)
  | with_reducible refine rd_new rfl ?_
  | ((with_reducible show rIxL _ _ (V.int 0) _ _); refine rd_ixL0 (by first | assumption | exact upd_same) ?_)
  | ((with_reducible show rIxL _ _ _ _ _); refine rd_ixL (by first | assumption | exact upd_same) rfl ?_)
  | ((with_reducible show rSetL _ _ _ _ _); refine rd_setL (by first | assumption | exact upd_same) rfl ?_)
  | ((with_reducible show rI CMul _ _ _ _ _); refine rd_mul (by first | exact Or.inl ⟨by omega, by omega⟩ | exact Or.inr ⟨by omega, by omega⟩) ?_)
  | ((with_reducible show tyV _ "list" _ _ ∧ _); refine rd_tyL (by first | assumption | exact upd_same) ?_)
  | ((with_reducible show rIxT _ _ (V.int 0) _ _); refine rd_ixT0 (by first | assumption | exact upd_same) ?_)
  | ((with_reducible show rIxT _ _ _ _ _); refine rd_ixT (by first | assumption | exact upd_same) rfl ?_))
local macro_rules | `(tactic| walk_at "rd") => `(tactic| (repeat (first | walk_at "rd1" | dsimp only)))
local macro_rules | `(tactic| walk_at "rds") => `(tactic| (dsimp only [cxOf, Cx.nox, Cx.wish, Cx.blk, L2.start]; walk_at "rd"))
local macro_rules | `(tactic| walk_at "rdn") => `(tactic| (repeat (first | walk_at "rdn1" | dsimp only)))
section
variable {P : Program} {w : World} {K : PySem.W.Frag} {mg : Str → Option Value} {base : Heap}

/-- a text that is told in whole -/
structure TxS (z : Str) : Prop where
  c : ∀ c ∈ z.cps.toList, c < 16 ^ 8
  l : z.length ≤ 100000
theorem digB_to {c : Nat} (h : digB c = true) : 48 ≤ c ∧ c ≤ 57 := by
  unfold digB at h
  have h := of_decide_eq_true h
  rw [show ("0123456789" : Str).cps.toList = [48, 49, 50, 51, 52, 53, 54, 55, 56, 57] from by decide +kernel] at h
  simp only [List.mem_cons, List.not_mem_nil, or_false] at h
  omega
/-- a text that is a number's reads as one -/
theorem num_int {z : Str} (h : isNumB (Txt.removeprefix z "-") 60 = true) : ∃ n, intText? z = some n ∧ z.length ≤ 61 := by
  have h3 := h
  unfold isNumB at h3
  simp only [Bool.and_eq_true, decide_eq_true_eq] at h3
  obtain ⟨⟨h1, h2⟩, h4, _⟩ := h3
  have hd : PySem.NumText.AllDigits (TL.tl (Txt.removeprefix z "-")) := fun c hc => digB_to (List.all_eq_true.mp h4 c hc)
  have hn : TL.tl (Txt.removeprefix z "-") ≠ [] := fun e => by
    have : (Txt.removeprefix z "-").length = 0 := by rw [TL.len_tl, e]; rfl
    omega
  by_cases hz : (TL.tl z).head? = some 45
  · cases e : TL.tl z with
    | nil => rw [e] at hz; cases hz
    | cons a cs =>
      rw [e] at hz
      cases hz
      have e2 := rp_yes e
      rw [e2] at hd hn
      have l1 : (Txt.removeprefix z "-").length = cs.length := by rw [TL.len_tl, e2]
      have l2 : z.length = cs.length + 1 := by rw [TL.len_tl, e]; rfl
      exact ⟨_, intText_neg e hd hn (by omega), by omega⟩
  · rw [rp_no hz] at hd hn h2
    exact ⟨_, intText_digits hd hn (by omega), by omega⟩
theorem rp_le (z : Str) : (Txt.removeprefix z "-").length ≤ z.length := by
  by_cases hz : (TL.tl z).head? = some 45
  · cases e : TL.tl z with
    | nil => rw [e] at hz; cases hz
    | cons a cs =>
      rw [e] at hz
      cases hz
      rw [TL.len_tl, TL.len_tl, rp_yes e, e]
      exact Nat.le_succ _
  · rw [rp_no hz]
    exact Nat.le_refl _
def spNumX (NT : Addr) : Sp := fun vs H Q E => ∃ z : Str, vs = [.str z] ∧ TxS z ∧ (∀ n, numR z = some n → ∀ H', Same H H' → Q (.int n) H') ∧
  (numR z = none → ∀ d H', H d = none → H' d = some (.xd [("what", .str z)]) → Same H H' → E (.ref NT) (some d) H')
theorem ok_number_ofX {f NT : Addr} {fd : FuncData} (B : BT mg) (F : Fun K "number_of" "number_of" s_number_of f fd) (hm : mg "number_of" = some (.ref f)) (X_NT : ExkT P w K mg base "NoText" NT) (G_MOST_FIGURES : GI mg "MOST_FIGURES" 60) (C_is_number : Cal P w K mg base "is_number" 1 ["text", "most"] spIsNum) : CalN P w K mg base "number_of" 4 ["text"] (spNumX NT) := by
  refine ⟨f, fd, hm, F.kp, F.binds (ps := ["text"]) fun _ _ _ _ _ _ us hl => match us, hl with | [_], _ => rfl, ?_⟩
  refine Fun.okN F sc_number_of (fun vs H Q E h => ?_) (fun cdv A outer s H vs Q E hr h => ?_)
  · obtain ⟨z, rfl, _⟩ := h
    rfl
  · obtain ⟨z, rfl, tx, k1, k2⟩ := h
    refine ⟨_, (pss_cons (ps_if (PW.pt (pw_or (pt_cmpR op_eq (pv 0) pe_str (nomark _)) (pw_or1 (pt_not (pt_val (pe_cal C_is_number (hr.mono (by omega)) rfl (pa_cons (pe_m1 PySem.F.slot_str_removeprefix PySem.F.type_str_removeprefix mt_removeprefix (pv 0) pe_str) (pa_cons (pe_gi G_MOST_FIGURES rfl) pa_nil)))))))) (pss_one (ps_raiseT X_NT rfl (L2N.takes_of rfl rfl rfl rfl) (hr.mono (by omega)) rfl (pv 0))) pss_nil)
 (pss_one (ps_ret (pe_callTy call_int_sK rfl B.g_int (by decide +kernel) (pa_cons (pv 0) pa_nil))))), ?_⟩
    have hlz : z.length ≤ sizeLine := Nat.le_trans tx.l (by rw [sizeLine_eq]; decide)
    have hrp := rp_le z
    walk_at "rds"
    by_cases h0 : z = "-0"
    · subst h0
      refine rd_ifT rfl ?_
      walk_at "rd"
      refine rd_rsS ?_
      walk_at "rd"
      exact rd_mkS (R := fun d H' => E (.ref NT) d H') X_NT.oex X_NT.wh ⟨_, rfl, tx.c, tx.l⟩ fun d hd => k2 (by unfold numR; rw [if_pos rfl]) d _ hd upd_same (same_upd hd)
    refine rd_ifF (fun h => h0 (by injection h)) ?_
    walk_at "rd"
    refine rd_m1 ?_
    walk_at "rd"
    refine ⟨⟨_, rfl⟩, ?_⟩
    walk_at "rd"
    refine ⟨z, _, rfl, rfl, hlz, ?_⟩
    walk_at "rd"
    refine ⟨_, 60, rfl, by decide, Nat.le_trans hrp hlz, fun H1 s1 => ?_⟩
    cases hb : isNumB (Txt.removeprefix z "-") 60 with
    | false =>
      walk_at "rd"
      refine rd_rsS ?_
      walk_at "rd"
      exact rd_mkS (R := fun d H' => E (.ref NT) d H') X_NT.oex X_NT.wh ⟨_, rfl, tx.c, tx.l⟩ fun d hd => k2 (by unfold numR; rw [if_neg h0, if_neg (by rw [hb]; decide)]) d _ (s1.free hd) upd_same (s1.trans (same_upd hd))
    | true =>
      obtain ⟨n, hn, hl⟩ := num_int hb
      walk_at "rd"
      exact ⟨z, n, rfl, hn, by omega, k1 n (by unfold numR; rw [if_neg h0, if_pos hb]; exact hn) _ s1⟩

end
end Rg

namespace Rg
open PySem PySem.Spec L2
local macro_rules | `(tactic| walk_at "rd1") => `(tactic| first
  | with_reducible refine rd_seq ?_
  | with_reducible refine rd_asg ?_
  | ((with_reducible show tVar _ _ _ _); refine rd_var rfl ?_)
  | with_reducible refine rd_c ?_
  | with_reducible refine rd_op ?_
  | with_reducible refine rd_I0 ?_
  | with_reducible refine rd_name ?_
  | with_reducible refine rd_ret ?_
  | with_reducible refine rd_ifs ?_
  | with_reducible refine rd_test ?_
  | with_reducible refine rd_tB ?_
  | with_reducible refine rd_bl ?_
  | with_reducible refine rd_drop ?_
  | with_reducible refine rd_nil ?_
  | with_reducible refine rd_cons ?_
  | with_reducible refine rd_call ?_
  | with_reducible refine rd_cb ?_
  | with_reducible refine rd_tup ?_
  | with_reducible refine rd_lst ?_
  | with_reducible refine rd_and ?_
  | with_reducible refine rd_or ?_
  | with_reducible refine rd_not ?_
  | with_reducible refine rd_andV ?_
  | with_reducible refine rd_orV ?_
  | with_reducible refine rd_notV ?_
  | with_reducible refine rd_chain ?_
  | with_reducible refine rd_un ?_
  | with_reducible refine rd_isN ?_
  | with_reducible refine rd_bm ?_
  | with_reducible refine rd_bm0 ?_
  | with_reducible refine rd_gsub ?_
  | with_reducible refine rd_sl ?_
  | with_reducible refine rd_gt ?_
  | with_reducible refine rd_yes ?_
  | with_reducible refine rd_gcons ?_
  | with_reducible refine rd_gnil ?_
  | with_reducible refine rd_part ?_
  | with_reducible refine rd_nopart ?_
  | ((with_reducible show gTup _ _ _ _ _ _ _); refine rd_gtup (by first | assumption | exact upd_same) rfl ?_)
  | ((with_reducible show gLst _ _ _ _ _ _ _); refine rd_glst (by first | assumption | exact upd_same) rfl ?_)
  | ((with_reducible show rIsi _ _ _ _); first | refine rd_isi (b := true) (.ty _) (.base (by first | exact .int _ | exact .str _ | exact .bl _ | exact .non | exact .tup (by assumption) | exact .lst (by assumption))) (kit_ty (by decide +kernel)) ?_ | refine rd_isi (b := false) (.ty _) (.base (by first | exact .int _ | exact .str _ | exact .bl _ | exact .non | exact .tup (by assumption) | exact .lst (by assumption))) (kit_ty (by decide +kernel)) ?_)
  | with_reducible refine rd_fld ?_
  | with_reducible refine rd_sfld ?_
  | with_reducible refine rd_meth ?_
  | with_reducible refine rd_make ?_
  | with_reducible refine rd_makeK ?_
  | with_reducible refine rd_U ?_
  | with_reducible refine rd_makeKS ?_
  | with_reducible refine rd_callN ?_
  | with_reducible refine rd_rs ?_
  | with_reducible refine rd_rf ?_
  | with_reducible refine rd_star ?_
  | with_reducible refine rd_callS ?_
  | with_reducible refine rd_for ?_
  | with_reducible refine rd_lc ?_
  | with_reducible refine rd_ilist ?_
  | with_reducible refine rd_itup ?_
  | with_reducible refine rd_irng ?_
  | with_reducible refine rd_izipS ?_
  | with_reducible refine rd_ienum ?_
  | with_reducible refine rd_ienT ?_
  | with_reducible refine rd_next ?_
  | with_reducible refine rd_eq rfl ?_
  | with_reducible refine rd_ne rfl ?_
  | with_reducible refine iteT ?_
  | with_reducible refine iteF ?_
  | with_reducible refine rd_ifnT ?_
  | with_reducible refine rd_ifnF ?_
  | ((with_reducible show rI (fun _ j => (0 : Int) < j) _ _ _ _ _); refine rd_mod (by omega) ?_)
  | with_reducible refine rd_new rfl ?_
  | ((with_reducible show rIxL _ _ (V.int 0) _ _); refine rd_ixL0 (by first | assumption | exact upd_same) ?_)
  | ((with_reducible show rIxL _ _ _ _ _); refine rd_ixL (by first | assumption | exact upd_same) rfl ?_)
  | ((with_reducible show rSetL _ _ _ _ _); refine rd_setL (by first | assumption | exact upd_same) rfl ?_)
  | ((with_reducible show rI CMul _ _ _ _ _); refine rd_mul (by first | exact Or.inl ⟨by omega, by omega⟩ | exact Or.inr ⟨by omega, by omega⟩) ?_)
  | ((with_reducible show tyV _ "list" _ _ ∧ _); refine rd_tyL (by first | assumption | exact upd_same) ?_)
  | ((with_reducible show rIxT _ _ (V.int 0) _ _); refine rd_ixT0 (by first | assumption | exact upd_same) ?_)
  | ((with_reducible show rIxT _ _ _ _ _); refine rd_ixT (by first | assumption | exact upd_same) rfl ?_))
local macro_rules | `(tactic| walk_at "rdn1") => `(tactic| first
  | with_reducible refine rd_seq ?_
  | with_reducible refine rd_asg ?_
  | ((with_reducible show tVar _ _ _ _); refine rd_var rfl ?_)
  | with_reducible refine rd_c ?_
  | with_reducible refine rd_op ?_
  | with_reducible refine rd_I0 ?_
  | with_reducible refine rd_name ?_
  | with_reducible refine rd_ret ?_
  | with_reducible refine rd_ifs ?_
  | with_reducible refine rd_test ?_
  | with_reducible refine rd_tB ?_
  | with_reducible refine rd_bl ?_
  | with_reducible refine rd_drop ?_
  | with_reducible refine rd_nil ?_
  | with_reducible refine rd_cons ?_
  | with_reducible refine rd_call ?_
  | with_reducible refine rd_cb ?_
  | with_reducible refine rd_tup ?_
  | with_reducible refine rd_lst ?_
  | with_reducible refine rd_and ?_
  | with_reducible refine rd_or ?_
  | with_reducible refine rd_not ?_
  | with_reducible refine rd_notV ?_
  | with_reducible refine rd_chain ?_
  | with_reducible refine rd_un ?_
  | with_reducible refine rd_isN ?_
  | with_reducible refine rd_bm ?_
  | with_reducible refine rd_bm0 ?_
  | with_reducible refine rd_gsub ?_
  | with_reducible refine rd_sl ?_
  | with_reducible refine rd_gt ?_
  | with_reducible refine rd_yes ?_
  | with_reducible refine rd_gcons ?_
  | with_reducible refine rd_gnil ?_
  | with_reducible refine rd_part ?_
  | with_reducible refine rd_nopart ?_
  | ((with_reducible show gTup _ _ _ _ _ _ _); refine rd_gtup (by first | assumption | exact upd_same) rfl ?_)
  | ((with_reducible show gLst _ _ _ _ _ _ _); refine rd_glst (by first | assumption | exact upd_same) rfl ?_)
  | ((with_reducible show rIsi _ _ _ _); first | refine rd_isi (b := true) (.ty _) (.base (by first | exact .int _ | exact .str _ | exact .bl _ | exact .non | exact .tup (by assumption) | exact .lst (by assumption))) (kit_ty (by decide +kernel)) ?_ | refine rd_isi (b := false) (.ty _) (.base (by first | exact .int _ | exact .str _ | exact .bl _ | exact .non | exact .tup (by assumption) | exact .lst (by assumption))) (kit_ty (by decide +kernel)) ?_)
  | with_reducible refine rd_fld ?_
  | with_reducible refine rd_sfld ?_
  | with_reducible refine rd_meth ?_
  | with_reducible refine rd_make ?_
  | with_reducible refine rd_makeK ?_
  | with_reducible refine rd_U ?_
  | with_reducible refine rd_makeKS ?_
  | with_reducible refine rd_callN ?_
  | with_reducible refine rd_rs ?_
  | with_reducible refine rd_rf ?_
  | with_reducible refine rd_star ?_
  | with_reducible refine rd_callS ?_
  | with_reducible refine rd_for ?_
  | with_reducible refine rd_lc ?_
  | with_reducible refine rd_ilist ?_
  | with_reducible refine rd_itup ?_
  | with_reducible refine rd_irng ?_
  | with_reducible refine rd_izipS ?_
  | with_reducible refine rd_ienum ?_
  | with_reducible refine rd_ienT ?_
  | with_reducible refine rd_next ?_
  | with_reducible refine rd_eq rfl ?_
  | with_reducible refine rd_ne rfl ?_
  | with_reducible refine iteT ?_
  | with_reducible refine iteF ?_
  | with_reducible refine rd_ifnT ?_
  | with_reducible refine rd_ifnF ?_
  | ((with_reducible show rI (fun _ j => (0 : Int) < j) _ _ _ _ _); refine rd_mod (by omega) ?_)
  | with_reducible refine rd_new rfl ?_
  | ((with_reducible show rIxL _ _ (V.int 0) _ _); refine rd_ixL0 (by first | assumption | exact upd_same) ?_)
  | ((with_reducible show rIxL _ _ _ _ _); refine rd_ixL (by first | assumption | exact upd_same) rfl ?_)
  | ((with_reducible show rSetL _ _ _ _ _); refine rd_setL (by first | assumption | exact upd_same) rfl ?_)
  | ((with_reducible show rI CMul _ _ _ _ _); refine rd_mul (by first | exact Or.inl ⟨by omega, by omega⟩ | exact Or.inr ⟨by omega, by omega⟩) ?_)
  | ((with_reducible show tyV _ "list" _ _ ∧ _); refine rd_tyL (by first | assumption | exact upd_same) ?_)
  | ((with_reducible show rIxT _ _ (V.int 0) _ _); refine rd_ixT0 (by first | assumption | exact upd_same) ?_)
  | ((with_reducible show rIxT _ _ _ _ _); refine rd_ixT (by first | assumption | exact upd_same) rfl ?_))
local macro_rules | `(tactic| walk_at "rd") => `(tactic| (repeat (first | walk_at "rd1" | dsimp only)))
local macro_rules | `(tactic| walk_at "rds") => `(tactic| (dsimp only [cxOf, Cx.nox, Cx.wish, Cx.blk, L2.start]; walk_at "rd"))
local macro_rules | `(tactic| walk_at "rdn") => `(tactic| (repeat (first | walk_at "rdn1" | dsimp only)))
section
variable {P : Program} {w : World} {K : PySem.W.Frag} {mg : Str → Option Value} {base : Heap}

/-! ### a comprehension of readings that may refuse -/
def Rdg {β : Type} (D : Addr) (H1 : Hp) (ps : List Str) (f : Str → Option β) (g : β → PyData) (i : Nat) (H' : Hp) : Prop := ∃ (vs : List V) (bs : List β), (ps.take i).mapM f = some bs ∧ H' D = some (.lst vs) ∧ RpAll H' vs (bs.map g) ∧ Same H1 H'
theorem mapM_snoc {α β : Type} {f : α → Option β} : ∀ {xs : List α} {ys : List β} {x : α} {b : β}, xs.mapM f = some ys → f x = some b → (xs ++ [x]).mapM f = some (ys ++ [b])
  | [], ys, x, b, h, hx => by
    injection h with h
    subst h
    rw [List.nil_append, List.mapM_cons, hx]
    rfl
  | a :: xs, ys, x, b, h, hx => by
    rw [List.mapM_cons] at h
    cases ha : f a with
    | none => rw [ha] at h; cases h
    | some c =>
      rw [ha] at h
      cases hr : xs.mapM f with
      | none => rw [hr] at h; cases h
      | some cs =>
        rw [hr] at h
        have h : some (c :: cs) = some ys := h
        injection h with h
        subst h
        rw [List.cons_append, List.mapM_cons, ha, mapM_snoc hr hx]
        rfl
theorem mapM_none {α β : Type} {f : α → Option β} : ∀ {xs : List α} {x : α}, x ∈ xs → f x = none → xs.mapM f = none
  | a :: xs, x, h, hx => by
    rw [List.mapM_cons]
    rcases List.mem_cons.mp h with e | e
    · subst e
      rw [hx]
      rfl
    · cases ha : f a with
      | none => rfl
      | some b =>
        rw [mapM_none e hx]
        rfl
theorem Rdg.start {β : Type} {D : Addr} {H1 : Hp} {ps : List Str} {f : Str → Option β} {g : β → PyData} (hD : H1 D = none) : Rdg D H1 ps f g 0 (upd H1 D (.lst [])) := ⟨[], [], rfl, upd_same, .nil, same_upd hD⟩
theorem Rdg.step {β : Type} {D : Addr} {H1 H2 H4 : Hp} {ps : List Str} {f : Str → Option β} {g : β → PyData} {i : Nat} {u : Str} {b : β} {y : V} (h : Rdg D H1 ps f g i H2) (hD : H1 D = none) (hi : i ≤ 200000) (hu : ps[i]? = some u) (hb : f u = some b) (k : Same H2 H4) (r : Rp H4 y (g b)) :
    ∃ acc, H4 D = some (.lst acc) ∧ acc.length < sizeLine ∧ Rdg D H1 ps f g (i + 1) (upd H4 D (.lst (acc ++ [y]))) := by
  obtain ⟨vs, bs, hm, h1, h2, s1⟩ := h
  have e4 := k _ _ h1
  have tk : Tk H4 (upd H4 D (.lst (vs ++ [y]))) := Tk.lst e4
  have hl := mapM_len hm
  rw [List.length_take] at hl
  refine ⟨vs, e4, ?_, vs ++ [y], bs ++ [b], ?_, upd_same, ?_, fun c o q => ?_⟩
  · rw [h2.length, List.length_map, ← hl, sizeLine_eq]
    omega
  · rw [take_snoc hu]
    exact mapM_snoc hm hb
  · rw [List.map_append]
    exact ((h2.keep (Tk.of k)).keep tk).append (.cons (r.keep tk) .nil)
  · rw [upd_ne (ne_of_none q hD)]
    exact k _ _ (s1 _ _ q)
theorem Rdg.end {β : Type} {D : Addr} {H1 H2 : Hp} {ps : List Str} {f : Str → Option β} {g : β → PyData} {n : Nat} (h : Rdg D H1 ps f g n H2) (hn : n = ps.length) : ∃ (vs : List V) (bs : List β), ps.mapM f = some bs ∧ H2 D = some (.lst vs) ∧ RpAll H2 vs (bs.map g) ∧ Same H1 H2 := by
  subst hn
  obtain ⟨vs, bs, hm, h1, h2, s⟩ := h
  rw [List.take_length] at hm
  exact ⟨vs, bs, hm, h1, h2, s⟩
theorem Rdg.same {β : Type} {D : Addr} {H1 H2 : Hp} {ps : List Str} {f : Str → Option β} {g : β → PyData} {n : Nat} (h : Rdg D H1 ps f g n H2) : Same H1 H2 := by
  obtain ⟨_, _, _, _, _, s⟩ := h
  exact s
theorem spl_mem : ∀ (S : List Nat) (l : List Nat) (k : Nat) (acc : List Nat), ∀ p ∈ TL.spl S k acc l, ∀ c ∈ p, c ∈ acc ∨ c ∈ l := by
  intro S l
  induction l with
  | nil =>
    intro k acc p hp c hc
    rw [TL.spl_nil] at hp
    rw [List.mem_singleton.mp hp] at hc
    exact .inl hc
  | cons a r ih =>
    intro k acc p hp c hc
    cases k with
    | zero =>
      cases hpp : TL.pre S (a :: r) with
      | true =>
        rw [TL.spl_hit hpp] at hp
        rcases List.mem_cons.mp hp with e | e
        · rw [e] at hc
          exact .inl hc
        · rcases ih _ _ p e c hc with q | q
          · cases q
          · exact .inr (List.mem_cons_of_mem _ q)
      | false =>
        rw [TL.spl_miss hpp] at hp
        rcases ih _ _ p hp c hc with q | q
        · rcases List.mem_append.mp q with q | q
          · exact .inl q
          · rw [List.mem_singleton.mp q]
            exact .inr List.mem_cons_self
        · exact .inr (List.mem_cons_of_mem _ q)
    | succ k =>
      rcases ih k acc p hp c hc with q | q
      · exact .inl q
      · exact .inr (List.mem_cons_of_mem _ q)
theorem TxS.part {z y : Str} (h : TxS z) (hy : TL.tl y ≠ []) (hk : y.cps.all (· < 256) = true) : ∀ p ∈ Txt.split z y, TxS p := by
  intro p hp
  refine ⟨fun c hc => ?_, Nat.le_trans (split_len hy hk p hp) h.l⟩
  have e := TL.split_spl z y hy (TL.kind_ok hk)
  have hm : TL.tl p ∈ TL.spl (TL.tl y) 0 [] (TL.tl z) := by
    rw [← e]
    exact List.mem_map.mpr ⟨p, hp, rfl⟩
  rcases spl_mem _ _ _ _ _ hm c hc with q | q
  · cases q
  · exact h.c c q
theorem spl_ne (S : List Nat) : ∀ (l : List Nat) (k : Nat) (acc : List Nat), TL.spl S k acc l ≠ []
  | [], k, acc => by rw [TL.spl_nil]; exact fun h => nomatch h
  | c :: r, 0, acc => by
    cases hp : TL.pre S (c :: r) with
    | true => rw [TL.spl_hit hp]; exact fun h => nomatch h
    | false => rw [TL.spl_miss hp]; exact spl_ne S r _ _
  | c :: r, k + 1, acc => spl_ne S r k acc
theorem split_ne {z y : Str} (hy : TL.tl y ≠ []) (hk : y.cps.all (· < 256) = true) : Txt.split z y ≠ [] := fun h => by
  have e := TL.split_spl z y hy (TL.kind_ok hk)
  rw [h] at e
  exact spl_ne _ _ _ _ e.symm

end
end Rg

namespace Rg
open PySem PySem.Spec L2
local macro_rules | `(tactic| walk_at "rd1") => `(tactic| first
  | with_reducible refine rd_seq ?_
  | with_reducible refine rd_asg ?_
  | ((with_reducible show tVar _ _ _ _); refine rd_var rfl ?_)
  | with_reducible refine rd_c ?_
  | with_reducible refine rd_op ?_
  | with_reducible refine rd_I0 ?_
  | with_reducible refine rd_name ?_
  | with_reducible refine rd_ret ?_
  | with_reducible refine rd_ifs ?_
  | with_reducible refine rd_test ?_
  | with_reducible refine rd_tB ?_
  | with_reducible refine rd_bl ?_
  | with_reducible refine rd_drop ?_
  | with_reducible refine rd_nil ?_
  | with_reducible refine rd_cons ?_
  | with_reducible refine rd_call ?_
  | with_reducible refine rd_cb ?_
  | with_reducible refine rd_tup ?_
  | with_reducible refine rd_lst ?_
  | with_reducible refine rd_and ?_
  | with_reducible refine rd_or ?_
  | with_reducible refine rd_not ?_
  | with_reducible refine rd_andV ?_
  | with_reducible refine rd_orV ?_
  | with_reducible refine rd_notV ?_
  | with_reducible refine rd_chain ?_
  | with_reducible refine rd_un ?_
  | with_reducible refine rd_isN ?_
  | with_reducible refine rd_bm ?_
  | with_reducible refine rd_bm0 ?_
  | with_reducible refine rd_gsub ?_
  | with_reducible refine rd_sl ?_
  | with_reducible refine rd_gt ?_
  | with_reducible refine rd_yes ?_
  | with_reducible refine rd_gcons ?_
  | with_reducible refine rd_gnil ?_
  | with_reducible refine rd_part ?_
  | with_reducible refine rd_nopart ?_
  | ((with_reducible show gTup _ _ _ _ _ _ _); refine rd_gtup (by first | assumption | exact upd_same) rfl ?_)
  | ((with_reducible show gLst _ _ _ _ _ _ _); refine rd_glst (by first | assumption | exact upd_same) rfl ?_)
  | ((with_reducible show rIsi _ _ _ _); first | refine rd_isi (b := true) (.ty _) (.base (by first | exact .int _ | exact .str _ | exact .bl _ | exact .non | exact .tup (by assumption) | exact .lst (by assumption))) (kit_ty (by decide +kernel)) ?_ | refine rd_isi (b := false) (.ty _) (.base (by first | exact .int _ | exact .str _ | exact .bl _ | exact .non | exact .tup (by assumption) | exact .lst (by assumption))) (kit_ty (by decide +kernel)) ?_)
  | with_reducible refine rd_fld ?_
  | with_reducible refine rd_sfld ?_
  | with_reducible refine rd_meth ?_
  | with_reducible refine rd_make ?_
  | with_reducible refine rd_makeK ?_
  | with_reducible refine rd_U ?_
  | with_reducible refine rd_makeKS ?_
  | with_reducible refine rd_callN ?_
  | with_reducible refine rd_rs ?_
  | with_reducible refine rd_rf ?_
  | with_reducible refine rd_star ?_
  | with_reducible refine rd_callS ?_
  | with_reducible refine rd_for ?_
  | with_reducible refine rd_lc ?_
  | with_reducible refine rd_ilist ?_
  | with_reducible refine rd_itup ?_
  | with_reducible refine rd_irng ?_
  | with_reducible refine rd_izipS ?_
  | with_reducible refine rd_ienum ?_
  | with_reducible refine rd_ienT ?_
  | with_reducible refine rd_next ?_
  | with_reducible refine rd_eq rfl ?_
  | with_reducible refine rd_ne rfl ?_
  | with_reducible refine iteT ?_
  | with_reducible refine iteF ?_
  | with_reducible refine rd_ifnT ?_
  | with_reducible refine rd_ifnF ?_
  | ((with_reducible show rI (fun _ j => (0 : Int) < j) _ _ _ _ _); refine rd_mod (by omega) ?_)
  | with_reducible refine rd_new rfl ?_
  | ((with_reducible show rIxL _ _ (V.int 0) _ _); refine rd_ixL0 (by first | assumption | exact upd_same) ?_)
  | ((with_reducible show rIxL _ _ _ _ _); refine rd_ixL (by first | assumption | exact upd_same) rfl ?_)
  | ((with_reducible show rSetL _ _ _ _ _); refine rd_setL (by first | assumption | exact upd_same) rfl ?_)
  | ((with_reducible show rI CMul _ _ _ _ _); refine rd_mul (by first | exact Or.inl ⟨by omega, by omega⟩ | exact Or.inr ⟨by omega, by omega⟩) ?_)
  | ((with_reducible show tyV _ "list" _ _ ∧ _); refine rd_tyL (by first | assumption | exact upd_same) ?_)
  | ((with_reducible show rIxT _ _ (V.int 0) _ _); refine rd_ixT0 (by first | assumption | exact upd_same) ?_)
  | ((with_reducible show rIxT _ _ _ _ _); refine rd_ixT (by first | assumption | exact upd_same) rfl ?_))
local macro_rules | `(tactic| walk_at "rdn1") => `(tactic| first
  | with_reducible refine rd_seq ?_
  | with_reducible refine rd_asg ?_
  | ((with_reducible show tVar _ _ _ _); refine rd_var rfl ?_)
  | with_reducible refine rd_c ?_
  | with_reducible refine rd_op ?_
  | with_reducible refine rd_I0 ?_
  | with_reducible refine rd_name ?_
  | with_reducible refine rd_ret ?_
  | with_reducible refine rd_ifs ?_
  | with_reducible refine rd_test ?_
  | with_reducible refine rd_tB ?_
  | with_reducible refine rd_bl ?_
  | with_reducible refine rd_drop ?_
  | with_reducible refine rd_nil ?_
  | with_reducible refine rd_cons ?_
  | with_reducible refine rd_call ?_
  | with_reducible refine rd_cb ?_
  | with_reducible refine rd_tup ?_
  | with_reducible refine rd_lst ?_
  | with_reducible refine rd_and ?_
  | with_reducible refine rd_or ?_
  | with_reducible refine rd_not ?_
  | with_reducible refine rd_notV ?_
  | with_reducible refine rd_chain ?_
  | with_reducible refine rd_un ?_
  | with_reducible refine rd_isN ?_
  | with_reducible refine rd_bm ?_
  | with_reducible refine rd_bm0 ?_
  | with_reducible refine rd_gsub ?_
  | with_reducible refine rd_sl ?_
  | with_reducible refine rd_gt ?_
  | with_reducible refine rd_yes ?_
  | with_reducible refine rd_gcons ?_
  | with_reducible refine rd_gnil ?_
  | with_reducible refine rd_part ?_
  | with_reducible refine rd_nopart ?_
  | ((with_reducible show gTup _ _ _ _ _ _ _); refine rd_gtup (by first | assumption | exact upd_same) rfl ?_)
  | ((with_reducible show gLst _ _ _ _ _ _ _); refine rd_glst (by first | assumption | exact upd_same) rfl ?_)
  | ((with_reducible show rIsi _ _ _ _); first | refine rd_isi (b := true) (.ty _) (.base (by first | exact .int _ | exact .str _ | exact .bl _ | exact .non | exact .tup (by assumption) | exact .lst (by assumption))) (kit_ty (by decide +kernel)) ?_ | refine rd_isi (b := false) (.ty _) (.base (by first | exact .int _ | exact .str _ | exact .bl _ | exact .non | exact .tup (by assumption) | exact .lst (by assumption))) (kit_ty (by decide +kernel)) ?_)
  | with_reducible refine rd_fld ?_
  | with_reducible refine rd_sfld ?_
  | with_reducible refine rd_meth ?_
  | with_reducible refine rd_make ?_
  | with_reducible refine rd_makeK ?_
  | with_reducible refine rd_U ?_
  | with_reducible refine rd_makeKS ?_
  | with_reducible refine rd_callN ?_
  | with_reducible refine rd_rs ?_
  | with_reducible refine rd_rf ?_
  | with_reducible refine rd_star ?_
  | with_reducible refine rd_callS ?_
  | with_reducible refine rd_for ?_
  | with_reducible refine rd_lc ?_
  | with_reducible refine rd_ilist ?_
  | with_reducible refine rd_itup ?_
  | with_reducible refine rd_irng ?_
  | with_reducible refine rd_izipS ?_
  | with_reducible refine rd_ienum ?_
  | with_reducible refine rd_ienT ?_
  | with_reducible refine rd_next ?_
  | with_reducible refine rd_eq rfl ?_
  | with_reducible refine rd_ne rfl ?_
  | with_reducible refine iteT ?_
  | with_reducible refine iteF ?_
  | with_reducible refine rd_ifnT ?_
  | with_reducible refine rd_ifnF ?_
  | ((with_reducible show rI (fun _ j => (0 : Int) < j) _ _ _ _ _); refine rd_mod (by omega) ?_)
  | with_reducible refine rd_new rfl ?_
  | ((with_reducible show rIxL _ _ (V.int 0) _ _); refine rd_ixL0 (by first | assumption | exact upd_same) ?_)
  | ((with_reducible show rIxL _ _ _ _ _); refine rd_ixL (by first | assumption | exact upd_same) rfl ?_)
  | ((with_reducible show rSetL _ _ _ _ _); refine rd_setL (by first | assumption | exact upd_same) rfl ?_)
  | ((with_reducible show rI CMul _ _ _ _ _); refine rd_mul (by first | exact Or.inl ⟨by omega, by omega⟩ | exact Or.inr ⟨by omega, by omega⟩) ?_)
  | ((with_reducible show tyV _ "list" _ _ ∧ _); refine rd_tyL (by first | assumption | exact upd_same) ?_)
  | ((with_reducible show rIxT _ _ (V.int 0) _ _); refine rd_ixT0 (by first | assumption | exact upd_same) ?_)
  | ((with_reducible show rIxT _ _ _ _ _); refine rd_ixT (by first | assumption | exact upd_same) rfl ?_))
local macro_rules | `(tactic| walk_at "rd") => `(tactic| (repeat (first | walk_at "rd1" | dsimp only)))
local macro_rules | `(tactic| walk_at "rds") => `(tactic| (dsimp only [cxOf, Cx.nox, Cx.wish, Cx.blk, L2.start]; walk_at "rd"))
local macro_rules | `(tactic| walk_at "rdn") => `(tactic| (repeat (first | walk_at "rdn1" | dsimp only)))
section
variable {P : Program} {w : World} {K : PySem.W.Frag} {mg : Str → Option Value} {base : Heap}

def T7 (z : Str) (n : Nat) : Prop := (∀ c ∈ z.cps.toList, c < 128) ∧ z.length ≤ n
theorem T7.mono {z : Str} {n m : Nat} (h : T7 z n) (k : n ≤ m) : T7 z m := ⟨h.1, Nat.le_trans h.2 k⟩
theorem T7.tx {z : Str} {n : Nat} (h : T7 z n) (k : n ≤ 100000) : TxS z := ⟨fun c hc => Nat.lt_trans (h.1 c hc) (by decide), Nat.le_trans h.2 k⟩
theorem T7.line {z : Str} {n : Nat} (h : T7 z n) (k : n ≤ 100000) : z.length ≤ sizeLine := Nat.le_trans h.2 (Nat.le_trans k (by rw [sizeLine_eq]; decide))
theorem t7_of {z : Str} {n : Nat} (h : (z.cps.toList.all (fun c => decide (c < 128)) && decide (z.length ≤ n)) = true) : T7 z n := by
  rw [Bool.and_eq_true, List.all_eq_true, decide_eq_true_eq] at h
  exact ⟨fun c hc => of_decide_eq_true (h.1 c hc), h.2⟩
theorem T7.cat {x y : Str} {n m : Nat} (h : T7 x n) (k : T7 y m) : T7 (x ++ y) (n + m) := by
  refine ⟨fun c hc => ?_, ?_⟩
  · have e : (x ++ y).cps.toList = x.cps.toList ++ y.cps.toList := TL.tl_append x y
    rw [e] at hc
    rcases List.mem_append.mp hc with q | q
    · exact h.1 c q
    · exact k.1 c q
  · rw [Str.length_append]
    exact Nat.add_le_add h.2 k.2
theorem T7.cut {z : Str} {n : Nat} (h : T7 z n) (lo hi : Option Int) : T7 (cutS z lo hi) n := by
  refine ⟨fun c hc => h.1 c ?_, Nat.le_trans (cutS_length z lo hi) h.2⟩
  unfold cutS at hc
  exact List.mem_of_mem_drop (List.mem_of_mem_take hc)
theorem T7.at {z : Str} {n : Nat} (h : T7 z n) {i : Int} {c : Nat} (e : atI z.cps.toList i = some c) : T7 ⟨#[c]⟩ 1 := by
  refine t7_of ?_
  have hm : c ∈ z.cps.toList := by
    unfold atI at e
    cases q : ixN z.cps.toList.length i with
    | none => rw [q] at e; cases e
    | some j => rw [q] at e; exact List.mem_of_getElem? e
  have := h.1 c hm
  show (List.all [c] (fun c => decide (c < 128)) && decide (1 ≤ 1)) = true
  simp [this]
theorem T7.part {z y : Str} {n : Nat} (h : T7 z n) (hy : TL.tl y ≠ []) (hk : y.cps.all (· < 256) = true) : ∀ p ∈ Txt.split z y, T7 p n := by
  intro p hp
  refine ⟨fun c hc => h.1 c ?_, Nat.le_trans (split_len hy hk p hp) h.2⟩
  have e := TL.split_spl z y hy (TL.kind_ok hk)
  have hm : TL.tl p ∈ TL.spl (TL.tl y) 0 [] (TL.tl z) := by
    rw [← e]
    exact List.mem_map.mpr ⟨p, hp, rfl⟩
  rcases spl_mem _ _ _ _ _ hm c hc with q | q
  · cases q
  · exact q
theorem T7.join {y : Str} {k n : Nat} (hy : T7 y k) {ps : List Str} (h : ∀ p ∈ ps, T7 p n) : (∀ c ∈ (Txt.join y ps).cps.toList, c < 128) := by
  have e : (Txt.join y ps).cps.toList = TL.joinL (TL.tl y) (ps.map TL.tl) := by
    rw [TL.join_eq]
    exact TL.tl_join _ _
  rw [e]
  have key : ∀ ls : List (List Nat), (∀ l ∈ ls, ∀ c ∈ l, c < 128) → ∀ c ∈ TL.joinL (TL.tl y) ls, c < 128 := by
    intro ls
    induction ls with
    | nil => intro _ c hc; cases hc
    | cons p ps ih =>
      intro h c hc
      cases ps with
      | nil => exact h p (List.mem_singleton.mpr rfl) c hc
      | cons q r =>
        have hc : c ∈ p ++ (TL.tl y ++ TL.joinL (TL.tl y) (q :: r)) := hc
        rcases List.mem_append.mp hc with e | e
        · exact h p (List.mem_cons_self ..) c e
        · rcases List.mem_append.mp e with e | e
          · exact hy.1 c e
          · exact ih (fun z hz => h z (List.mem_cons_of_mem _ hz)) c e
  refine key _ fun l hl c hc => ?_
  obtain ⟨p, hp, rfl⟩ := List.mem_map.mp hl
  exact (h p hp).1 c hc
/-! text * n -/
theorem op_smul {X : Cx} : OpR X (binaryOp .Mult) (fun x y H Q => ∃ (z : Str) (n : Int), x = .str z ∧ y = .int n ∧ MulOk z n ∧ Q (.str (Txt.mul z n)) H) := by
  intro pins s σ H x y u v Q I rx ry h
  obtain ⟨z, n, rfl, rfl, hok, q⟩ := h
  obtain ⟨t, rfl⟩ := rx
  obtain ⟨t2, rfl⟩ := ry
  exact SB.mul hok fun t' k => ⟨.str (Txt.mul z n), H, I.tok _, ⟨_, rfl⟩, q⟩
/-! d.update(e) -/
theorem mergeK_len (more : List (Key × V)) : ∀ kvs : List (Key × V), (L2.mergeK kvs more).length ≤ kvs.length + more.length := by
  induction more with
  | nil => intro kvs; exact Nat.le_refl _
  | cons p ps ih =>
    intro kvs
    have h1 := ih (putK kvs p.1 p.2)
    have h2 := length_putK kvs p.1 p.2
    show (L2.mergeK (putK kvs p.1 p.2) ps).length ≤ _
    rw [List.length_cons]
    omega
def tDUpd (td ty : TE) : TE := fun σ H Q => td σ H fun x H1 => ∃ a, x = .ref a ∧ IsD H1 a ∧ ty σ H1 fun y H2 => ∃ (b : Addr) (kvs more : List (Key × V)), y = .ref b ∧ a ≠ b ∧ H2 a = some (.dK kvs) ∧ H2 b = some (.dK more) ∧ kvs.length + more.length ≤ 1000 ∧ Q .non (upd H2 a (.dK (L2.mergeK kvs more)))
theorem pe_dupd {X : Cx} {o e : Expr} {apos cpos : Pos} {td ty : TE} (ho : PE X o td) (he : PE X e ty) (m : M1 X o "update" apos e cpos) : PE X (.Call (.Attribute o "update" apos) [e] [] cpos) (tDUpd td ty) := by
  refine ⟨fun pins s σ H Q I h => ?_⟩
  refine wpAny_Call_method m.base m.few m.line PySem.F.plainAttrs_dict PySem.F.slot_dict_update PySem.F.type_dict_update (thn (ho.run pins s σ H _ I h) fun u s1 ⟨x, H1, I1, rx, a, ex, d, q1⟩ => ?_)
  subst ex
  obtain rfl : u = Value.ref a := rx
  obtain ⟨t1, t2, _⟩ := isD_at I1 d
  refine ⟨t1, t2, ?_⟩
  rw [m.trees]
  refine PySem.Calls.callWith_builtin rfl (PySem.Calls.evalArgs_plain (PySem.Calls.spliced_cons (thn (he.run pins s1 σ H1 _ I1 q1) fun iv s2 ⟨y, H2, I2, ry, b, kvs, more, ey, hne, ea, eb, hl, q2⟩ => PySem.Calls.spliced_nil ?_)))
  subst ey
  obtain rfl : iv = Value.ref b := ry
  obtain ⟨z, hd, vs, rel, dd⟩ := dk_of I2.hok ea
  obtain ⟨z2, hd2, vs2, rel2, dd2⟩ := dk_of I2.hok eb
  refine call_meetsIn PySem.F.slot_dict_update dd.typeIs PySem.F.entry_dict_update (PySem.F.args_dict_update_2 _ _) (meets_dict_update _ a b hne hd2) ⟨vs, vs2, dd, dd2, ?_, fun h' hmm _ hs => ?_⟩
  · have e1 : vs.length = kvs.length := (Paired.length rel).symm
    have e2 : vs2.length = more.length := (Paired.length rel2).symm
    rw [e1, e2, sizeLine_eq]
    omega
  · have hlen := mergeK_len more kvs
    have he : ∃ q, h'.get? a = some q := let ⟨q, _, _, hq, _⟩ := hmm; ⟨q, hq⟩
    exact ⟨.non, _, d_write (t' := s2.toks) I2 (by rw [ea]; trivial) hs he (dk_new (by rw [sizeLine_eq]; omega) hd (L2.KV.merge rel2 rel) hmm), rfl, q2⟩

end
end Rg

namespace Rg
open PySem PySem.Spec L2
local macro_rules | `(tactic| walk_at "rd1") => `(tactic| first
  | with_reducible refine rd_seq ?_
  | with_reducible refine rd_asg ?_
  | ((with_reducible show tVar _ _ _ _); refine rd_var rfl ?_)
  | with_reducible refine rd_c ?_
  | with_reducible refine rd_op ?_
  | with_reducible refine rd_I0 ?_
  | with_reducible refine rd_name ?_
  | with_reducible refine rd_ret ?_
  | with_reducible refine rd_ifs ?_
  | with_reducible refine rd_test ?_
  | with_reducible refine rd_tB ?_
  | with_reducible refine rd_bl ?_
  | with_reducible refine rd_drop ?_
  | with_reducible refine rd_nil ?_
  | with_reducible refine rd_cons ?_
  | with_reducible refine rd_call ?_
  | with_reducible refine rd_cb ?_
  | with_reducible refine rd_tup ?_
  | with_reducible refine rd_lst ?_
  | with_reducible refine rd_and ?_
  | with_reducible refine rd_or ?_
  | with_reducible refine rd_not ?_
  | with_reducible refine rd_andV ?_
  | with_reducible refine rd_orV ?_
  | with_reducible refine rd_notV ?_
  | with_reducible refine rd_chain ?_
  | with_reducible refine rd_un ?_
  | with_reducible refine rd_isN ?_
  | with_reducible refine rd_bm ?_
  | with_reducible refine rd_bm0 ?_
  | with_reducible refine rd_gsub ?_
  | with_reducible refine rd_sl ?_
  | with_reducible refine rd_gt ?_
  | with_reducible refine rd_yes ?_
  | with_reducible refine rd_gcons ?_
  | with_reducible refine rd_gnil ?_
  | with_reducible refine rd_part ?_
  | with_reducible refine rd_nopart ?_
  | ((with_reducible show gTup _ _ _ _ _ _ _); refine rd_gtup (by first | assumption | exact upd_same) rfl ?_)
  | ((with_reducible show gLst _ _ _ _ _ _ _); refine rd_glst (by first | assumption | exact upd_same) rfl ?_)
  | ((with_reducible show rIsi _ _ _ _); first | refine rd_isi (b := true) (.ty _) (.base (by first | exact .int _ | exact .str _ | exact .bl _ | exact .non | exact .tup (by assumption) | exact .lst (by assumption))) (kit_ty (by decide +kernel)) ?_ | refine rd_isi (b := false) (.ty _) (.base (by first | exact .int _ | exact .str _ | exact .bl _ | exact .non | exact .tup (by assumption) | exact .lst (by assumption))) (kit_ty (by decide +kernel)) ?_)
  | with_reducible refine rd_fld ?_
  | with_reducible refine rd_sfld ?_
  | with_reducible refine rd_meth ?_
  | with_reducible refine rd_make ?_
  | with_reducible refine rd_makeK ?_
  | with_reducible refine rd_U ?_
  | with_reducible refine rd_makeKS ?_
  | with_reducible refine rd_callN ?_
  | with_reducible refine rd_rs ?_
  | with_reducible refine rd_rf ?_
  | with_reducible refine rd_star ?_
  | with_reducible refine rd_callS ?_
  | with_reducible refine rd_for ?_
  | with_reducible refine rd_lc ?_
  | with_reducible refine rd_ilist ?_
  | with_reducible refine rd_itup ?_
  | with_reducible refine rd_irng ?_
  | with_reducible refine rd_izipS ?_
  | with_reducible refine rd_ienum ?_
  | with_reducible refine rd_ienT ?_
  | with_reducible refine rd_next ?_
  | with_reducible refine rd_eq rfl ?_
  | with_reducible refine rd_ne rfl ?_
  | with_reducible refine iteT ?_
  | with_reducible refine iteF ?_
  | with_reducible refine rd_ifnT ?_
  | with_reducible refine rd_ifnF ?_
  | ((with_reducible show rI (fun _ j => (0 : Int) < j) _ _ _ _ _); refine rd_mod (by omega) ?_)
  | with_reducible refine rd_new rfl ?_
  | ((with_reducible show rIxL _ _ (V.int 0) _ _); refine rd_ixL0 (by first | assumption | exact upd_same) ?_)
  | ((with_reducible show rIxL _ _ _ _ _); refine rd_ixL (by first | assumption | exact upd_same) rfl ?_)
  | ((with_reducible show rSetL _ _ _ _ _); refine rd_setL (by first | assumption | exact upd_same) rfl ?_)
  | ((with_reducible show rI CMul _ _ _ _ _); refine rd_mul (by first | exact Or.inl ⟨by omega, by omega⟩ | exact Or.inr ⟨by omega, by omega⟩) ?_)
  | ((with_reducible show tyV _ "list" _ _ ∧ _); refine rd_tyL (by first | assumption | exact upd_same) ?_)
  | ((with_reducible show rIxT _ _ (V.int 0) _ _); refine rd_ixT0 (by first | assumption | exact upd_same) ?_)
  | ((with_reducible show rIxT _ _ _ _ _); refine rd_ixT (by first | assumption | exact upd_same) rfl ?_))
local macro_rules | `(tactic| walk_at "rdn1") => `(tactic| first
  | with_reducible refine rd_seq ?_
  | with_reducible refine rd_asg ?_
  | ((with_reducible show tVar _ _ _ _); refine rd_var rfl ?_)
  | with_reducible refine rd_c ?_
  | with_reducible refine rd_op ?_
  | with_reducible refine rd_I0 ?_
  | with_reducible refine rd_name ?_
  | with_reducible refine rd_ret ?_
  | with_reducible refine rd_ifs ?_
  | with_reducible refine rd_test ?_
  | with_reducible refine rd_tB ?_
  | with_reducible refine rd_bl ?_
  | with_reducible refine rd_drop ?_
  | with_reducible refine rd_nil ?_
  | with_reducible refine rd_cons ?_
  | with_reducible refine rd_call ?_
  | with_reducible refine rd_cb ?_
  | with_reducible refine rd_tup ?_
  | with_reducible refine rd_lst ?_
  | with_reducible refine rd_and ?_
  | with_reducible refine rd_or ?_
  | with_reducible refine rd_not ?_
  | with_reducible refine rd_notV ?_
  | with_reducible refine rd_chain ?_
  | with_reducible refine rd_un ?_
  | with_reducible refine rd_isN ?_
  | with_reducible refine rd_bm ?_
  | with_reducible refine rd_bm0 ?_
  | with_reducible refine rd_gsub ?_
  | with_reducible refine rd_sl ?_
  | with_reducible refine rd_gt ?_
  | with_reducible refine rd_yes ?_
  | with_reducible refine rd_gcons ?_
  | with_reducible refine rd_gnil ?_
  | with_reducible refine rd_part ?_
  | with_reducible refine rd_nopart ?_
  | ((with_reducible show gTup _ _ _ _ _ _ _); refine rd_gtup (by first | assumption | exact upd_same) rfl ?_)
  | ((with_reducible show gLst _ _ _ _ _ _ _); refine rd_glst (by first | assumption | exact upd_same) rfl ?_)
  | ((with_reducible show rIsi _ _ _ _); first | refine rd_isi (b := true) (.ty _) (.base (by first | exact .int _ | exact .str _ | exact .bl _ | exact .non | exact .tup (by assumption) | exact .lst (by assumption))) (kit_ty (by decide +kernel)) ?_ | refine rd_isi (b := false) (.ty _) (.base (by first | exact .int _ | exact .str _ | exact .bl _ | exact .non | exact .tup (by assumption) | exact .lst (by assumption))) (kit_ty (by decide +kernel)) ?_)
  | with_reducible refine rd_fld ?_
  | with_reducible refine rd_sfld ?_
  | with_reducible refine rd_meth ?_
  | with_reducible refine rd_make ?_
  | with_reducible refine rd_makeK ?_
  | with_reducible refine rd_U ?_
  | with_reducible refine rd_makeKS ?_
  | with_reducible refine rd_callN ?_
  | with_reducible refine rd_rs ?_
  | with_reducible refine rd_rf ?_
  | with_reducible refine rd_star ?_
  | with_reducible refine rd_callS ?_
  | with_reducible refine rd_for ?_
  | with_reducible refine rd_lc ?_
  | with_reducible refine rd_ilist ?_
  | with_reducible refine rd_itup ?_
  | with_reducible refine rd_irng ?_
  | with_reducible refine rd_izipS ?_
  | with_reducible refine rd_ienum ?_
  | with_reducible refine rd_ienT ?_
  | with_reducible refine rd_next ?_
  | with_reducible refine rd_eq rfl ?_
  | with_reducible refine rd_ne rfl ?_
  | with_reducible refine iteT ?_
  | with_reducible refine iteF ?_
  | with_reducible refine rd_ifnT ?_
  | with_reducible refine rd_ifnF ?_
  | ((with_reducible show rI (fun _ j => (0 : Int) < j) _ _ _ _ _); refine rd_mod (by omega) ?_)
  | with_reducible refine rd_new rfl ?_
  | ((with_reducible show rIxL _ _ (V.int 0) _ _); refine rd_ixL0 (by first | assumption | exact upd_same) ?_)
  | ((with_reducible show rIxL _ _ _ _ _); refine rd_ixL (by first | assumption | exact upd_same) rfl ?_)
  | ((with_reducible show rSetL _ _ _ _ _); refine rd_setL (by first | assumption | exact upd_same) rfl ?_)
  | ((with_reducible show rI CMul _ _ _ _ _); refine rd_mul (by first | exact Or.inl ⟨by omega, by omega⟩ | exact Or.inr ⟨by omega, by omega⟩) ?_)
  | ((with_reducible show tyV _ "list" _ _ ∧ _); refine rd_tyL (by first | assumption | exact upd_same) ?_)
  | ((with_reducible show rIxT _ _ (V.int 0) _ _); refine rd_ixT0 (by first | assumption | exact upd_same) ?_)
  | ((with_reducible show rIxT _ _ _ _ _); refine rd_ixT (by first | assumption | exact upd_same) rfl ?_))
local macro_rules | `(tactic| walk_at "rd") => `(tactic| (repeat (first | walk_at "rd1" | dsimp only)))
local macro_rules | `(tactic| walk_at "rds") => `(tactic| (dsimp only [cxOf, Cx.nox, Cx.wish, Cx.blk, L2.start]; walk_at "rd"))
local macro_rules | `(tactic| walk_at "rdn") => `(tactic| (repeat (first | walk_at "rdn1" | dsimp only)))
section
variable {P : Program} {w : World} {K : PySem.W.Frag} {mg : Str → Option Value} {base : Heap}

/-- a draw: a number below many -/
def spDraw : Sp := fun vs H Q _ => ∃ (t g : Addr) (n : Nat) (m : Int), vs = [.ref t, .int m] ∧ Tray H t g n ∧ n ≤ 1000000 ∧ 0 < m ∧ m ≤ 1000000000000000000000000000000000000000000000000000000000000 ∧
  ∀ (r : Int) (H' : Hp), 0 ≤ r → r < m → Tray H' t g (n + 1) → Kp t g H H' → Q (.int r) H'
theorem use_draw {t g : Addr} {n : Nat} {m : Int} {H : Hp} {Q : VK} {E : XK} (T : Tray H t g n) (hn : n ≤ 1000000) (h0 : 0 < m) (h1 : m ≤ 1000000000000000000000000000000000000000000000000000000000000)
    (h : ∀ (r : Int) (H' : Hp), 0 ≤ r → r < m → Tray H' t g (n + 1) → Kp t g H H' → Q (.int r) H') : spDraw [.ref t, .int m] H Q E := ⟨t, g, n, m, rfl, T, hn, h0, h1, h⟩
theorem big_div {i m : Int} (h0 : 0 < m) (h1 : m ≤ 1000000000000000000000000000000000000000000000000000000000000) : CDivW i m := wide_div (b := 200) h0 (Nat.lt_of_le_of_lt (show m.natAbs ≤ 1000000000000000000000000000000000000000000000000000000000000 by omega) (by decide +kernel)) (by decide) (by decide)
theorem mod_nn {a b : Int} (h : 0 < b) : 0 ≤ a % b ∧ a % b < b := ⟨Int.emod_nonneg _ (by omega), Int.emod_lt_of_pos _ h⟩
theorem ok_draw {f : Addr} {fd : FuncData} (F : Fun K "_law_draw" "_law_draw" s_law_draw f fd) (hm : mg "_law_draw" = some (.ref f)) : Cal P w K mg base "_law_draw" 1 ["tray", "many"] spDraw := by
  refine ⟨f, fd, hm, F.kp, F.binds (ps := ["tray", "many"]) fun _ _ _ _ _ _ us hl => match us, hl with | [_, _], _ => rfl, ?_⟩
  refine F.ok sc_law_draw (fun vs H Q E h => ?_) (fun cdv A outer s H vs Q E hr h => ?_)
  · obtain ⟨t, g, n, m, rfl, _⟩ := h
    rfl
  · obtain ⟨t, g, n, m, rfl, T, hn, hm0, hm1, k⟩ := h
    refine ⟨_, (pss_cons (ps_while PassesOwn.never (PW.pt (pw_and (pt_cmpR op_lt (pe_ix (r := rIxL K) ix_list (pv 0) pe_int (fun _ _ => rfl)) pe_int (nomark _)) (pw_and1 (pt_cmpR (r := rNeD K) (op_neD hr.units) (pe_ix (r := rIxL K) ix_list (pv 0) pe_int (fun _ _ => rfl)) (pe_lst pa_nil) (nomark _))))) (pss_one (ps_asg (pe_bm PySem.F.plainAttrs_list PySem.F.slot_list_pop PySem.F.type_list_pop mt_popAt (pe_ix (r := rIxL K) ix_list (pv 0) pe_int (fun _ _ => rfl)) (pa_cons pe_int pa_nil)) (pg_sub (pv 0) pe_int set_list))))
 (pss_cons (ps_if (pt_cmpR op_ge (pe_ix (r := rIxL K) ix_list (pv 0) pe_int (fun _ _ => rfl)) pe_int (nomark _)) (pss_cons (ps_set (i := 2) sc_law_draw.nd rfl (Or.inl rfl) (pe_op op_mod (pe_ix (r := rIxL K) ix_list (pv 0) pe_int (fun _ _ => rfl)) (pv 1)))
 (pss_cons (ps_asg (pe_op op_fdivW (pe_ix (r := rIxL K) ix_list (pv 0) pe_int (fun _ _ => rfl)) (pv 1)) (pg_sub (pv 0) pe_int set_list))
 (pss_one (ps_ret (pv 2))))) pss_nil)
 (pss_cons (ps_asg (pe_op op_add (pe_ix (r := rIxL K) ix_list (pv 0) pe_int (fun _ _ => rfl)) pe_int) (pg_sub (pv 0) pe_int set_list))
 (pss_cons (ps_set (i := 3) sc_law_draw.nd rfl (Or.inl rfl) (pe_op op_mod (pe_op op_add (pe_op op_mul (pe_op op_add (pe_ix (r := rIxL K) ix_list (pv 0) pe_int (fun _ _ => rfl)) pe_int) (pe_op op_pow (pe_op op_add (pe_ix (r := rIxL K) ix_list (pv 0) pe_int (fun _ _ => rfl)) pe_int) pe_int)) (pe_op op_mul pe_int (pe_ix (r := rIxL K) ix_list (pv 0) pe_int (fun _ _ => rfl)))) (pe_op op_sub (pe_powc (v := 2305843009213693952) (by decide +kernel) (by decide +kernel)) pe_int)))
 (pss_one (ps_ret (pe_op op_mod (pe_op op_fdivW (pe_op op_mod (pe_op op_pow (pv 3) pe_int) (pe_op op_add (pe_powc (v := 1000000000000000000) (by decide +kernel) (by decide +kernel)) pe_int)) pe_int) (pv 1)))))))), ?_⟩
    walk_at "rds"
    refine while_inv (fun i σ' H' => σ' = [some (.ref t), some (.int m), none, none] ∧ Tray H' t g n ∧ Kp t g H H' ∧ ∃ xs : List V, H' g = some (.lst xs) ∧ xs.length = i) ?_ ?_ ?_
    · obtain ⟨xs, e⟩ := T.hg
      exact ⟨xs.length, rfl, T, Kp.refl _ _ _, xs, e, rfl⟩
    · rintro i σ1 H1 ⟨rfl, T1, k1, _⟩
      obtain ⟨ne, gs, a, fo, c, h1, h2, h3, h4, h5, h6, h7, h8⟩ := id T1
      walk_at "rd"
      refine rd_ifd (fun ha => ?_) (fun ha => ?_)
      · walk_at "rd"
        refine rd_fdivW (big_div hm0 hm1) ?_
        walk_at "rd"
        refine k _ _ (mod_nn hm0).1 (mod_nn hm0).2 ⟨ne, gs, a / m, fo, c, upd_same, by rw [upd_ne ne.symm]; exact h2, h3, Int.ediv_nonneg h4 (by omega), h5, h6, h7, by omega⟩ (k1.trans Kp.t)
      · walk_at "rd"
        refine rd_pow ⟨by decide, by decide, by omega⟩ ?_
        walk_at "rd"
        refine rd_pow ⟨by decide, by decide, ?_⟩ ?_
        · have := mod_nn (a := (fo + 5) * (c + 1 + 2) ^ (3 : Int).toNat + 1000003 * (c + 1)) (b := 2305843009213693952 - 1) (by decide)
          omega
        walk_at "rd"
        refine rd_fdivW (wide_div (b := 8) (by decide) (by decide) (by decide) (by decide)) ?_
        walk_at "rd"
        refine k _ _ (mod_nn hm0).1 (mod_nn hm0).2 ⟨ne, gs, a, fo, c + 1, upd_same, by rw [upd_ne ne.symm]; exact h2, h3, h4, h5, h6, by omega, by omega⟩ (k1.trans Kp.t)
    · rintro B hx i σ1 H1 ⟨rfl, T1, k1, xs, hxs, hi⟩
      obtain ⟨ne, gs, a, fo, c, h1, h2, h3, h4, h5, h6, h7, h8⟩ := id T1
      have ex : xs = gs.map V.int := by rw [hxs] at h2; injection h2 with z; injection z
      subst ex
      walk_at "rd"
      refine rd_ifd (fun ha => ?_) (fun ha => ?_)
      · walk_at "rd"
        intro p hp
        have s1 := same_upd (o := .lst []) hp
        refine rd_neD (d := .list (gs.map .int)) (e := .list []) (.lst (SqL.of (s1 _ _ h2)) (RpAll.ints gs).dp) (.lst (SqL.of upd_same) .nil) (shaped_ints gs) rfl ?_
        walk_at "rd"
        cases gs with
        | nil =>
          refine rd_ifbF rfl ?_
          exact hx 0 _ _ ⟨rfl, T1.same s1, k1.trans (Kp.of s1), [], s1 _ _ h2, rfl⟩
        | cons z gs =>
          refine rd_ifbT rfl ⟨_, fun σ' H' h => h, ?_⟩
          have e1 := s1 _ _ h1
          have e2 := s1 _ _ h2
          walk_at "rd"
          refine rd_pop0 e2 ?_
          have e3 : upd (upd H1 p (.lst [])) g (.lst (gs.map V.int)) t = some (.lst [.ref g, .int a, .int fo, .int c]) := by rw [upd_ne ne]; exact e1
          walk_at "rd"
          refine ⟨gs.length, by simp at hi; omega, rfl, ⟨ne, gs, z, fo, c, upd_same, by rw [upd_ne ne.symm, upd_same], fun y hy => h3 y (List.mem_cons_of_mem _ hy), h3 z (List.mem_cons_self ..), h5, h6, h7, h8⟩, ((k1.trans (Kp.of s1)).trans Kp.g).trans Kp.t, _, by rw [upd_ne ne.symm, upd_same], by simp⟩
      · walk_at "rd"
        exact hx i _ _ ⟨rfl, T1, k1, _, hxs, hi⟩

end
end Rg

namespace Rg
open PySem PySem.Spec L2
local macro_rules | `(tactic| walk_at "rd1") => `(tactic| first
  | with_reducible refine rd_seq ?_
  | with_reducible refine rd_asg ?_
  | ((with_reducible show tVar _ _ _ _); refine rd_var rfl ?_)
  | with_reducible refine rd_c ?_
  | with_reducible refine rd_op ?_
  | with_reducible refine rd_I0 ?_
  | with_reducible refine rd_name ?_
  | with_reducible refine rd_ret ?_
  | with_reducible refine rd_ifs ?_
  | with_reducible refine rd_test ?_
  | with_reducible refine rd_tB ?_
  | with_reducible refine rd_bl ?_
  | with_reducible refine rd_drop ?_
  | with_reducible refine rd_nil ?_
  | with_reducible refine rd_cons ?_
  | with_reducible refine rd_call ?_
  | with_reducible refine rd_cb ?_
  | with_reducible refine rd_tup ?_
  | with_reducible refine rd_lst ?_
  | with_reducible refine rd_and ?_
  | with_reducible refine rd_or ?_
  | with_reducible refine rd_not ?_
  | with_reducible refine rd_andV ?_
  | with_reducible refine rd_orV ?_
  | with_reducible refine rd_notV ?_
  | with_reducible refine rd_chain ?_
  | with_reducible refine rd_un ?_
  | with_reducible refine rd_isN ?_
  | with_reducible refine rd_bm ?_
  | with_reducible refine rd_bm0 ?_
  | with_reducible refine rd_gsub ?_
  | with_reducible refine rd_sl ?_
  | with_reducible refine rd_gt ?_
  | with_reducible refine rd_yes ?_
  | with_reducible refine rd_gcons ?_
  | with_reducible refine rd_gnil ?_
  | with_reducible refine rd_part ?_
  | with_reducible refine rd_nopart ?_
  | ((with_reducible show gTup _ _ _ _ _ _ _); refine rd_gtup (by first | assumption | exact upd_same) rfl ?_)
  | ((with_reducible show gLst _ _ _ _ _ _ _); refine rd_glst (by first | assumption | exact upd_same) rfl ?_)
  | ((with_reducible show rIsi _ _ _ _); first | refine rd_isi (b := true) (.ty _) (.base (by first | exact .int _ | exact .str _ | exact .bl _ | exact .non | exact .tup (by assumption) | exact .lst (by assumption))) (kit_ty (by decide +kernel)) ?_ | refine rd_isi (b := false) (.ty _) (.base (by first | exact .int _ | exact .str _ | exact .bl _ | exact .non | exact .tup (by assumption) | exact .lst (by assumption))) (kit_ty (by decide +kernel)) ?_)
  | with_reducible refine rd_fld ?_
  | with_reducible refine rd_sfld ?_
  | with_reducible refine rd_meth ?_
  | with_reducible refine rd_make ?_
  | with_reducible refine rd_makeK ?_
  | with_reducible refine rd_U ?_
  | with_reducible refine rd_makeKS ?_
  | with_reducible refine rd_callN ?_
  | with_reducible refine rd_rs ?_
  | with_reducible refine rd_rf ?_
  | with_reducible refine rd_star ?_
  | with_reducible refine rd_callS ?_
  | with_reducible refine rd_for ?_
  | with_reducible refine rd_lc ?_
  | with_reducible refine rd_ilist ?_
  | with_reducible refine rd_itup ?_
  | with_reducible refine rd_irng ?_
  | with_reducible refine rd_izipS ?_
  | with_reducible refine rd_ienum ?_
  | with_reducible refine rd_ienT ?_
  | with_reducible refine rd_next ?_
  | with_reducible refine rd_eq rfl ?_
  | with_reducible refine rd_ne rfl ?_
  | with_reducible refine iteT ?_
  | with_reducible refine iteF ?_
  | with_reducible refine rd_ifnT ?_
  | with_reducible refine rd_ifnF ?_
  | ((with_reducible show rI (fun _ j => (0 : Int) < j) _ _ _ _ _); refine rd_mod (by omega) ?_)
  | with_reducible refine rd_new rfl ?_
  | ((with_reducible show rIxL _ _ (V.int 0) _ _); refine rd_ixL0 (by first | assumption | exact upd_same) ?_)
  | ((with_reducible show rIxL _ _ _ _ _); refine rd_ixL (by first | assumption | exact upd_same) rfl ?_)
  | ((with_reducible show rSetL _ _ _ _ _); refine rd_setL (by first | assumption | exact upd_same) rfl ?_)
  | ((with_reducible show rI CMul _ _ _ _ _); refine rd_mul (by first | exact Or.inl ⟨by omega, by omega⟩ | exact Or.inr ⟨by omega, by omega⟩) ?_)
  | ((with_reducible show tyV _ "list" _ _ ∧ _); refine rd_tyL (by first | assumption | exact upd_same) ?_)
  | ((with_reducible show rIxT _ _ (V.int 0) _ _); refine rd_ixT0 (by first | assumption | exact upd_same) ?_)
  | ((with_reducible show rIxT _ _ _ _ _); refine rd_ixT (by first | assumption | exact upd_same) rfl ?_))
local macro_rules | `(tactic| walk_at "rdn1") => `(tactic| first
  | with_reducible refine rd_seq ?_
  | with_reducible refine rd_asg ?_
  | ((with_reducible show tVar _ _ _ _); refine rd_var rfl ?_)
  | with_reducible refine rd_c ?_
  | with_reducible refine rd_op ?_
  | with_reducible refine rd_I0 ?_
  | with_reducible refine rd_name ?_
  | with_reducible refine rd_ret ?_
  | with_reducible refine rd_ifs ?_
  | with_reducible refine rd_test ?_
  | with_reducible refine rd_tB ?_
  | with_reducible refine rd_bl ?_
  | with_reducible refine rd_drop ?_
  | with_reducible refine rd_nil ?_
  | with_reducible refine rd_cons ?_
  | with_reducible refine rd_call ?_
  | with_reducible refine rd_cb ?_
  | with_reducible refine rd_tup ?_
  | with_reducible refine rd_lst ?_
  | with_reducible refine rd_and ?_
  | with_reducible refine rd_or ?_
  | with_reducible refine rd_not ?_
  | with_reducible refine rd_notV ?_
  | with_reducible refine rd_chain ?_
  | with_reducible refine rd_un ?_
  | with_reducible refine rd_isN ?_
  | with_reducible refine rd_bm ?_
  | with_reducible refine rd_bm0 ?_
  | with_reducible refine rd_gsub ?_
  | with_reducible refine rd_sl ?_
  | with_reducible refine rd_gt ?_
  | with_reducible refine rd_yes ?_
  | with_reducible refine rd_gcons ?_
  | with_reducible refine rd_gnil ?_
  | with_reducible refine rd_part ?_
  | with_reducible refine rd_nopart ?_
  | ((with_reducible show gTup _ _ _ _ _ _ _); refine rd_gtup (by first | assumption | exact upd_same) rfl ?_)
  | ((with_reducible show gLst _ _ _ _ _ _ _); refine rd_glst (by first | assumption | exact upd_same) rfl ?_)
  | ((with_reducible show rIsi _ _ _ _); first | refine rd_isi (b := true) (.ty _) (.base (by first | exact .int _ | exact .str _ | exact .bl _ | exact .non | exact .tup (by assumption) | exact .lst (by assumption))) (kit_ty (by decide +kernel)) ?_ | refine rd_isi (b := false) (.ty _) (.base (by first | exact .int _ | exact .str _ | exact .bl _ | exact .non | exact .tup (by assumption) | exact .lst (by assumption))) (kit_ty (by decide +kernel)) ?_)
  | with_reducible refine rd_fld ?_
  | with_reducible refine rd_sfld ?_
  | with_reducible refine rd_meth ?_
  | with_reducible refine rd_make ?_
  | with_reducible refine rd_makeK ?_
  | with_reducible refine rd_U ?_
  | with_reducible refine rd_makeKS ?_
  | with_reducible refine rd_callN ?_
  | with_reducible refine rd_rs ?_
  | with_reducible refine rd_rf ?_
  | with_reducible refine rd_star ?_
  | with_reducible refine rd_callS ?_
  | with_reducible refine rd_for ?_
  | with_reducible refine rd_lc ?_
  | with_reducible refine rd_ilist ?_
  | with_reducible refine rd_itup ?_
  | with_reducible refine rd_irng ?_
  | with_reducible refine rd_izipS ?_
  | with_reducible refine rd_ienum ?_
  | with_reducible refine rd_ienT ?_
  | with_reducible refine rd_next ?_
  | with_reducible refine rd_eq rfl ?_
  | with_reducible refine rd_ne rfl ?_
  | with_reducible refine iteT ?_
  | with_reducible refine iteF ?_
  | with_reducible refine rd_ifnT ?_
  | with_reducible refine rd_ifnF ?_
  | ((with_reducible show rI (fun _ j => (0 : Int) < j) _ _ _ _ _); refine rd_mod (by omega) ?_)
  | with_reducible refine rd_new rfl ?_
  | ((with_reducible show rIxL _ _ (V.int 0) _ _); refine rd_ixL0 (by first | assumption | exact upd_same) ?_)
  | ((with_reducible show rIxL _ _ _ _ _); refine rd_ixL (by first | assumption | exact upd_same) rfl ?_)
  | ((with_reducible show rSetL _ _ _ _ _); refine rd_setL (by first | assumption | exact upd_same) rfl ?_)
  | ((with_reducible show rI CMul _ _ _ _ _); refine rd_mul (by first | exact Or.inl ⟨by omega, by omega⟩ | exact Or.inr ⟨by omega, by omega⟩) ?_)
  | ((with_reducible show tyV _ "list" _ _ ∧ _); refine rd_tyL (by first | assumption | exact upd_same) ?_)
  | ((with_reducible show rIxT _ _ (V.int 0) _ _); refine rd_ixT0 (by first | assumption | exact upd_same) ?_)
  | ((with_reducible show rIxT _ _ _ _ _); refine rd_ixT (by first | assumption | exact upd_same) rfl ?_))
local macro_rules | `(tactic| walk_at "rd") => `(tactic| (repeat (first | walk_at "rd1" | dsimp only)))
local macro_rules | `(tactic| walk_at "rds") => `(tactic| (dsimp only [cxOf, Cx.nox, Cx.wish, Cx.blk, L2.start]; walk_at "rd"))
local macro_rules | `(tactic| walk_at "rdn") => `(tactic| (repeat (first | walk_at "rdn1" | dsimp only)))
section
variable {P : Program} {w : World} {K : PySem.W.Frag} {mg : Str → Option Value} {base : Heap}

def spTray (K : PySem.W.Frag) : Sp := fun vs H Q _ => ∃ (a : Addr) (ns : List Int), vs = [.ref a] ∧ SqL K H a (ns.map V.int) ∧ ns.length ≤ 63 ∧ ∀ (t g : Addr) (H' : Hp), Same H H' → H t = none → H g = none → Tray H' t g 0 → Q (.ref t) H'
theorem ok_tray {f : Addr} {fd : FuncData} (B : BT mg) (F : Fun K "_law_tray" "_law_tray" s_law_tray f fd) (hm : mg "_law_tray" = some (.ref f)) : Cal P w K mg base "_law_tray" 1 ["script"] (spTray K) := by
  refine ⟨f, fd, hm, F.kp, F.binds (ps := ["script"]) fun _ _ _ _ _ _ us hl => match us, hl with | [_], _ => rfl, ?_⟩
  refine F.ok sc_law_tray (fun vs H Q E h => ?_) (fun cdv A outer s H vs Q E hr h => ?_)
  · obtain ⟨a, ns, rfl, _⟩ := h
    rfl
  · obtain ⟨a, ns, rfl, hS, hl, k⟩ := h
    refine ⟨_, (pss_cons (ps_set (i := 1) sc_law_tray.nd rfl (Or.inl rfl) pe_int)
 (pss_cons (ps_set (i := 2) sc_law_tray.nd rfl (Or.inl rfl) (pe_lst pa_nil))
 (pss_cons (ps_for PassesOwn.never rfl (pi_listK (K := K) (pv 0)) (pg_name (i := 3) sc_law_tray.nd rfl (Or.inl rfl))
 (pss_cons (ps_set (i := 1) sc_law_tray.nd rfl (Or.inl rfl) (pe_op op_mod (pe_op op_add (pe_op op_mul (pv 1) pe_int) (pv 3)) (pe_op op_sub (pe_powc (v := 2305843009213693952) (by decide +kernel) (by decide +kernel)) pe_int)))
 (pss_cons (ps_set (i := 4) sc_law_tray.nd rfl (Or.inl rfl) (pe_callB (call_max2 rfl) rfl B.g_max (by decide +kernel) (pa_cons (pv 3) (pa_cons (pe_op op_sub pe_int (pv 3)) pa_nil))))
 (pss_one (ps_if (pt_cmpR op_ge (pv 4) (pe_powc (v := 1000000000000000000) (by decide +kernel) (by decide +kernel)) (nomark _)) (pss_one (ps_expr (pe_bm PySem.F.plainAttrs_list PySem.F.slot_list_append PySem.F.type_list_append mt_append (pv 2) (pa_cons (pe_op op_sub (pv 4) (pe_powc (v := 1000000000000000000) (by decide +kernel) (by decide +kernel))) pa_nil)))) pss_nil)))))
 (pss_one (ps_ret (pe_lst (pa_cons (pv 2) (pa_cons pe_int (pa_cons (pv 1) (pa_cons pe_int pa_nil)))))))))), ?_⟩
    walk_at "rds"
    intro g hg
    walk_at "rd"
    refine ⟨_, rfl, ⟨_, (same_upd hg).seq hS⟩, ?_⟩
    refine for_inv (walk_list (xs := ns.map V.int)) (fun i σ' H' => ∃ (fo : Int) (c1 c2 : Option V) (gs : List Int), σ' = [some (.ref a), some (.int fo), some (.ref g), c1, c2] ∧ 0 ≤ fo ∧ fo < 2305843009213693952 ∧ Same H H' ∧ H' g = some (.lst (gs.map V.int)) ∧ (∀ z ∈ gs, 0 ≤ z) ∧ gs.length ≤ i) ?_ ?_ ?_ ?_
    · exact ⟨_, none, none, [], rfl, by decide, by decide, same_upd hg, upd_same, fun z hz => (nomatch hz), Nat.le_refl _⟩
    · rintro i σ1 H1 hi ⟨fo, c1, c2, gs, rfl, _, _, s1, _⟩
      exact s1.seq hS
    · rintro B' i x σ1 H1 H2 hi ⟨fo, c1, c2, gs, rfl, f0, f1, s1, hg1, hgs, hgl⟩ ⟨rfl, hx⟩
      rw [List.getElem?_map] at hx
      obtain ⟨z, hz, rfl⟩ := Option.map_eq_some_iff.mp hx
      have hi' : i < 63 := by simp at hi; omega
      walk_at "rd"
      refine ⟨_, _, rfl, ?_⟩
      walk_at "rd"
      have fm := mod_nn (a := fo * 1000003 + z) (b := 2305843009213693952 - 1) (by decide)
      refine rd_ifd (fun hc => ?_) (fun hc => ?_)
      · walk_at "rd"
        refine rd_append hg1 (by rw [List.length_map]; exact small1000 (by omega)) ?_
        walk_at "rd"
        refine ⟨_, _, _, gs ++ [_], rfl, fm.1, by omega, fun b o e => ?_, upd_same.trans (by rw [List.map_append]; rfl), ?_, by simp; omega⟩
        · rw [upd_ne (ne_of_none e hg)]
          exact s1 b o e
        · intro y hy
          rcases List.mem_append.mp hy with h | h
          · exact hgs y h
          · rw [List.mem_singleton.mp h]
            omega
      · walk_at "rd"
        exact ⟨_, _, _, gs, rfl, fm.1, by omega, s1, hg1, hgs, by omega⟩
    · rintro σ1 H1 ⟨fo, c1, c2, gs, rfl, f0, f1, s1, hg1, hgs, _⟩
      walk_at "rd"
      intro t ht
      walk_at "rd"
      exact k t g _ (s1.trans (same_upd ht)) (s1.free ht) hg ⟨Ne.symm (ne_of_none hg1 ht), gs, 0, fo, 0, upd_same, by rw [upd_ne (ne_of_none hg1 ht)]; exact hg1, hgs, by decide, f0, f1, by decide, by decide⟩
/-- a number of up to fifty-nine figures -/
def spGreat : Sp := fun vs H Q _ => ∃ (t g : Addr) (n : Nat), vs = [.ref t] ∧ Tray H t g n ∧ n ≤ 900000 ∧
  ∀ (r : Int) (H' : Hp), 0 ≤ r → r < 100000000000000000000000000000000000000000000000000000000000 → Tray H' t g (n + 4) → Kp t g H H' → Q (.int r) H'
theorem use_great {t g : Addr} {n : Nat} {H : Hp} {Q : VK} {E : XK} (T : Tray H t g n) (hn : n ≤ 900000)
    (h : ∀ (r : Int) (H' : Hp), 0 ≤ r → r < 100000000000000000000000000000000000000000000000000000000000 → Tray H' t g (n + 4) → Kp t g H H' → Q (.int r) H') : spGreat [.ref t] H Q E := ⟨t, g, n, rfl, T, hn, h⟩
def gB (i : Nat) : Int := 100000000000000 * 1000000000000000 ^ i
theorem gB_s (i : Nat) : gB (i + 1) = gB i * 1000000000000000 := by
  unfold gB
  rw [Int.pow_succ, Int.mul_assoc]
theorem ok_great {f : Addr} {fd : FuncData} (B : BT mg) (F : Fun K "_law_great" "_law_great" s_law_great f fd) (hm : mg "_law_great" = some (.ref f)) (C_law_draw : Cal P w K mg base "_law_draw" 1 ["tray", "many"] spDraw) : Cal P w K mg base "_law_great" 2 ["tray"] spGreat := by
  refine ⟨f, fd, hm, F.kp, F.binds (ps := ["tray"]) fun _ _ _ _ _ _ us hl => match us, hl with | [_], _ => rfl, ?_⟩
  refine F.ok sc_law_great (fun vs H Q E h => ?_) (fun cdv A outer s H vs Q E hr h => ?_)
  · obtain ⟨t, g, n, rfl, _⟩ := h
    rfl
  · obtain ⟨t, g, n, rfl, T, hn, k⟩ := h
    refine ⟨_, (pss_cons (ps_set (i := 1) sc_law_great.nd rfl (Or.inl rfl) (pe_cal C_law_draw (hr.mono (by omega)) rfl (pa_cons (pv 0) (pa_cons (pe_powc (v := 100000000000000) (by decide +kernel) (by decide +kernel)) pa_nil))))
 (pss_cons (ps_for PassesOwn.never rfl (pi_range1 rfl B.g_range (pa_cons pe_int pa_nil)) (pg_name (i := 2) sc_law_great.nd rfl (Or.inl rfl))
 (pss_one (ps_set (i := 1) sc_law_great.nd rfl (Or.inl rfl) (pe_op op_add (pe_op op_mul (pv 1) (pe_powc (v := 1000000000000000) (by decide +kernel) (by decide +kernel))) (pe_cal C_law_draw (hr.mono (by omega)) rfl (pa_cons (pv 0) (pa_cons (pe_powc (v := 1000000000000000) (by decide +kernel) (by decide +kernel)) pa_nil)))))))
 (pss_one (ps_ret (pv 1))))), ?_⟩
    walk_at "rds"
    refine use_draw T (by omega) (by decide) (by decide) fun r1 H1 ra rb T1 k1 => ?_
    walk_at "rd"
    refine ⟨3, rfl, by decide, by decide, ?_⟩
    refine for_inv (walk_range (n := 3)) (fun i σ' H' => ∃ (r : Int) (c1 : Option V), σ' = [some (.ref t), some (.int r), c1] ∧ 0 ≤ r ∧ r < gB i ∧ Tray H' t g (n + 1 + i) ∧ Kp t g H H') ?_ ?_ ?_ ?_
    · exact ⟨r1, none, rfl, ra, rb, T1, k1⟩
    · intros; trivial
    · rintro B' i x σ1 H2 H3 hi ⟨r, c1, rfl, r0, rl, T2, k2⟩ ⟨rfl, rfl⟩
      walk_at "rd"
      refine use_draw T2 (by omega) (by decide) (by decide) fun r2 H4 rc rd' T3 k3 => ?_
      walk_at "rd"
      refine ⟨_, _, rfl, by omega, ?_, T3, k2.trans k3⟩
      rw [gB_s]
      omega
    · rintro σ1 H2 ⟨r, c1, rfl, r0, rl, T2, k2⟩
      walk_at "rd"
      exact k r H2 r0 rl T2 k2
/-- a number of either sign -/
def spNumber : Sp := fun vs H Q _ => ∃ (t g : Addr) (n : Nat), vs = [.ref t] ∧ Tray H t g n ∧ n ≤ 800000 ∧
  ∀ (r : Int) (H' : Hp), -1000000000000000000000000000000000000000000000000000000000000 < r → r < 1000000000000000000000000000000000000000000000000000000000000 → Tray H' t g (n + 6) → Kp t g H H' → Q (.int r) H'
theorem use_number {t g : Addr} {n : Nat} {H : Hp} {Q : VK} {E : XK} (T : Tray H t g n) (hn : n ≤ 800000)
    (h : ∀ (r : Int) (H' : Hp), -1000000000000000000000000000000000000000000000000000000000000 < r → r < 1000000000000000000000000000000000000000000000000000000000000 → Tray H' t g (n + 6) → Kp t g H H' → Q (.int r) H') : spNumber [.ref t] H Q E := ⟨t, g, n, rfl, T, hn, h⟩
theorem ok_number {f : Addr} {fd : FuncData} (B : BT mg) (F : Fun K "_law_number" "_law_number" s_law_number f fd) (hm : mg "_law_number" = some (.ref f)) (C_law_draw : Cal P w K mg base "_law_draw" 1 ["tray", "many"] spDraw) (C_law_great : Cal P w K mg base "_law_great" 2 ["tray"] spGreat) :
    Cal P w K mg base "_law_number" 3 ["tray"] spNumber := by
  refine ⟨f, fd, hm, F.kp, F.binds (ps := ["tray"]) fun _ _ _ _ _ _ us hl => match us, hl with | [_], _ => rfl, ?_⟩
  refine F.ok sc_law_number (fun vs H Q E h => ?_) (fun cdv A outer s H vs Q E hr h => ?_)
  · obtain ⟨t, g, n, rfl, _⟩ := h
    rfl
  · obtain ⟨t, g, n, rfl, T, hn, k⟩ := h
    refine ⟨_, (pss_cons (ps_set (i := 1) sc_law_number.nd rfl (Or.inl rfl) (pe_cal C_law_draw (hr.mono (by omega)) rfl (pa_cons (pv 0) (pa_cons pe_int pa_nil))))
 (pss_cons (ps_if (pt_cmpR op_eq (pv 1) pe_int (nomark _)) (pss_one (ps_ret (pe_op op_mul (pe_op op_add (pe_cal C_law_great (hr.mono (by omega)) rfl (pa_cons (pv 0) pa_nil)) pe_int) (pe_op op_sub pe_int (pe_op op_mul pe_int (pe_cal C_law_draw (hr.mono (by omega)) rfl (pa_cons (pv 0) (pa_cons pe_int pa_nil)))))))) pss_nil)
 (pss_one (ps_ret (pe_op op_sub (pe_cal C_law_draw (hr.mono (by omega)) rfl (pa_cons (pv 0) (pa_cons pe_int pa_nil))) pe_int))))), ?_⟩
    walk_at "rds"
    refine use_draw T (by omega) (by decide) (by decide) fun r1 H1 ra rb T1 k1 => ?_
    walk_at "rd"
    refine rd_ifI (fun hc => ?_) (fun hc => ?_)
    · walk_at "rd"
      refine use_great T1 (by omega) fun r2 H2 rc rd' T2 k2 => ?_
      walk_at "rd"
      refine use_draw T2 (by omega) (by decide) (by decide) fun r3 H3 re rf T3 k3 => ?_
      walk_at "rd"
      have h3 : r3 = 0 ∨ r3 = 1 := by omega
      refine k _ _ ?_ ?_ T3 ((k1.trans k2).trans k3)
      · rcases h3 with rfl | rfl <;> omega
      · rcases h3 with rfl | rfl <;> omega
    · walk_at "rd"
      refine use_draw T1 (by omega) (by decide) (by decide) fun r2 H2 rc rd' T2 k2 => ?_
      walk_at "rd"
      exact k _ _ (by omega) (by omega) (T2.mono (by omega)) (k1.trans k2)

end
end Rg

namespace Rg
open PySem PySem.Spec L2
local macro_rules | `(tactic| walk_at "rd1") => `(tactic| first
  | with_reducible refine rd_seq ?_
  | with_reducible refine rd_asg ?_
  | ((with_reducible show tVar _ _ _ _); refine rd_var rfl ?_)
  | with_reducible refine rd_c ?_
  | with_reducible refine rd_op ?_
  | with_reducible refine rd_I0 ?_
  | with_reducible refine rd_name ?_
  | with_reducible refine rd_ret ?_
  | with_reducible refine rd_ifs ?_
  | with_reducible refine rd_test ?_
  | with_reducible refine rd_tB ?_
  | with_reducible refine rd_bl ?_
  | with_reducible refine rd_drop ?_
  | with_reducible refine rd_nil ?_
  | with_reducible refine rd_cons ?_
  | with_reducible refine rd_call ?_
  | with_reducible refine rd_cb ?_
  | with_reducible refine rd_tup ?_
  | with_reducible refine rd_lst ?_
  | with_reducible refine rd_and ?_
  | with_reducible refine rd_or ?_
  | with_reducible refine rd_not ?_
  | with_reducible refine rd_andV ?_
  | with_reducible refine rd_orV ?_
  | with_reducible refine rd_notV ?_
  | with_reducible refine rd_chain ?_
  | with_reducible refine rd_un ?_
  | with_reducible refine rd_isN ?_
  | with_reducible refine rd_bm ?_
  | with_reducible refine rd_bm0 ?_
  | with_reducible refine rd_gsub ?_
  | with_reducible refine rd_sl ?_
  | with_reducible refine rd_gt ?_
  | with_reducible refine rd_yes ?_
  | with_reducible refine rd_gcons ?_
  | with_reducible refine rd_gnil ?_
  | with_reducible refine rd_part ?_
  | with_reducible refine rd_nopart ?_
  | ((with_reducible show gTup _ _ _ _ _ _ _); refine rd_gtup (by first | assumption | exact upd_same) rfl ?_)
  | ((with_reducible show gLst _ _ _ _ _ _ _); refine rd_glst (by first | assumption | exact upd_same) rfl ?_)
  | ((with_reducible show rIsi _ _ _ _); first | refine rd_isi (b := true) (.ty _) (.base (by first | exact .int _ | exact .str _ | exact .bl _ | exact .non | exact .tup (by assumption) | exact .lst (by assumption))) (kit_ty (by decide +kernel)) ?_ | refine rd_isi (b := false) (.ty _) (.base (by first | exact .int _ | exact .str _ | exact .bl _ | exact .non | exact .tup (by assumption) | exact .lst (by assumption))) (kit_ty (by decide +kernel)) ?_)
  | with_reducible refine rd_fld ?_
  | with_reducible refine rd_sfld ?_
  | with_reducible refine rd_meth ?_
  | with_reducible refine rd_make ?_
  | with_reducible refine rd_makeK ?_
  | with_reducible refine rd_U ?_
  | with_reducible refine rd_makeKS ?_
  | with_reducible refine rd_callN ?_
  | with_reducible refine rd_rs ?_
  | with_reducible refine rd_rf ?_
  | with_reducible refine rd_star ?_
  | with_reducible refine rd_callS ?_
  | with_reducible refine rd_for ?_
  | with_reducible refine rd_lc ?_
  | with_reducible refine rd_ilist ?_
  | with_reducible refine rd_itup ?_
  | with_reducible refine rd_irng ?_
  | with_reducible refine rd_izipS ?_
  | with_reducible refine rd_ienum ?_
  | with_reducible refine rd_ienT ?_
  | with_reducible refine rd_next ?_
  | with_reducible refine rd_eq rfl ?_
  | with_reducible refine rd_ne rfl ?_
  | with_reducible refine iteT ?_
  | with_reducible refine iteF ?_
  | with_reducible refine rd_ifnT ?_
  | with_reducible refine rd_ifnF ?_
  | ((with_reducible show rI (fun _ j => (0 : Int) < j) _ _ _ _ _); refine rd_mod (by omega) ?_)
  | with_reducible refine rd_new rfl ?_
  | ((with_reducible show rIxL _ _ (V.int 0) _ _); refine rd_ixL0 (by first | assumption | exact upd_same) ?_)
  | ((with_reducible show rIxL _ _ _ _ _); refine rd_ixL (by first | assumption | exact upd_same) rfl ?_)
  | ((with_reducible show rSetL _ _ _ _ _); refine rd_setL (by first | assumption | exact upd_same) rfl ?_)
  | ((with_reducible show rI CMul _ _ _ _ _); refine rd_mul (by first | exact Or.inl ⟨by omega, by omega⟩ | exact Or.inr ⟨by omega, by omega⟩) ?_)
  | ((with_reducible show tyV _ "list" _ _ ∧ _); refine rd_tyL (by first | assumption | exact upd_same) ?_)
  | ((with_reducible show rIxT _ _ (V.int 0) _ _); refine rd_ixT0 (by first | assumption | exact upd_same) ?_)
  | ((with_reducible show rIxT _ _ _ _ _); refine rd_ixT (by first | assumption | exact upd_same) rfl ?_))
local macro_rules | `(tactic| walk_at "rdn1") => `(tactic| first
  | with_reducible refine rd_seq ?_
  | with_reducible refine rd_asg ?_
  | ((with_reducible show tVar _ _ _ _); refine rd_var rfl ?_)
  | with_reducible refine rd_c ?_
  | with_reducible refine rd_op ?_
  | with_reducible refine rd_I0 ?_
  | with_reducible refine rd_name ?_
  | with_reducible refine rd_ret ?_
  | with_reducible refine rd_ifs ?_
  | with_reducible refine rd_test ?_
  | with_reducible refine rd_tB ?_
  | with_reducible refine rd_bl ?_
  | with_reducible refine rd_drop ?_
  | with_reducible refine rd_nil ?_
  | with_reducible refine rd_cons ?_
  | with_reducible refine rd_call ?_
  | with_reducible refine rd_cb ?_
  | with_reducible refine rd_tup ?_
  | with_reducible refine rd_lst ?_
  | with_reducible refine rd_and ?_
  | with_reducible refine rd_or ?_
  | with_reducible refine rd_not ?_
  | with_reducible refine rd_notV ?_
  | with_reducible refine rd_chain ?_
  | with_reducible refine rd_un ?_
  | with_reducible refine rd_isN ?_
  | with_reducible refine rd_bm ?_
  | with_reducible refine rd_bm0 ?_
  | with_reducible refine rd_gsub ?_
  | with_reducible refine rd_sl ?_
  | with_reducible refine rd_gt ?_
  | with_reducible refine rd_yes ?_
  | with_reducible refine rd_gcons ?_
  | with_reducible refine rd_gnil ?_
  | with_reducible refine rd_part ?_
  | with_reducible refine rd_nopart ?_
  | ((with_reducible show gTup _ _ _ _ _ _ _); refine rd_gtup (by first | assumption | exact upd_same) rfl ?_)
  | ((with_reducible show gLst _ _ _ _ _ _ _); refine rd_glst (by first | assumption | exact upd_same) rfl ?_)
  | ((with_reducible show rIsi _ _ _ _); first | refine rd_isi (b := true) (.ty _) (.base (by first | exact .int _ | exact .str _ | exact .bl _ | exact .non | exact .tup (by assumption) | exact .lst (by assumption))) (kit_ty (by decide +kernel)) ?_ | refine rd_isi (b := false) (.ty _) (.base (by first | exact .int _ | exact .str _ | exact .bl _ | exact .non | exact .tup (by assumption) | exact .lst (by assumption))) (kit_ty (by decide +kernel)) ?_)
  | with_reducible refine rd_fld ?_
  | with_reducible refine rd_sfld ?_
  | with_reducible refine rd_meth ?_
  | with_reducible refine rd_make ?_
  | with_reducible refine rd_makeK ?_
  | with_reducible refine rd_U ?_
  | with_reducible refine rd_makeKS ?_
  | with_reducible refine rd_callN ?_
  | with_reducible refine rd_rs ?_
  | with_reducible refine rd_rf ?_
  | with_reducible refine rd_star ?_
  | with_reducible refine rd_callS ?_
  | with_reducible refine rd_for ?_
  | with_reducible refine rd_lc ?_
  | with_reducible refine rd_ilist ?_
  | with_reducible refine rd_itup ?_
  | with_reducible refine rd_irng ?_
  | with_reducible refine rd_izipS ?_
  | with_reducible refine rd_ienum ?_
  | with_reducible refine rd_ienT ?_
  | with_reducible refine rd_next ?_
  | with_reducible refine rd_eq rfl ?_
  | with_reducible refine rd_ne rfl ?_
  | with_reducible refine iteT ?_
  | with_reducible refine iteF ?_
  | with_reducible refine rd_ifnT ?_
  | with_reducible refine rd_ifnF ?_
  | ((with_reducible show rI (fun _ j => (0 : Int) < j) _ _ _ _ _); refine rd_mod (by omega) ?_)
  | with_reducible refine rd_new rfl ?_
  | ((with_reducible show rIxL _ _ (V.int 0) _ _); refine rd_ixL0 (by first | assumption | exact upd_same) ?_)
  | ((with_reducible show rIxL _ _ _ _ _); refine rd_ixL (by first | assumption | exact upd_same) rfl ?_)
  | ((with_reducible show rSetL _ _ _ _ _); refine rd_setL (by first | assumption | exact upd_same) rfl ?_)
  | ((with_reducible show rI CMul _ _ _ _ _); refine rd_mul (by first | exact Or.inl ⟨by omega, by omega⟩ | exact Or.inr ⟨by omega, by omega⟩) ?_)
  | ((with_reducible show tyV _ "list" _ _ ∧ _); refine rd_tyL (by first | assumption | exact upd_same) ?_)
  | ((with_reducible show rIxT _ _ (V.int 0) _ _); refine rd_ixT0 (by first | assumption | exact upd_same) ?_)
  | ((with_reducible show rIxT _ _ _ _ _); refine rd_ixT (by first | assumption | exact upd_same) rfl ?_))
local macro_rules | `(tactic| walk_at "rd") => `(tactic| (repeat (first | walk_at "rd1" | dsimp only)))
local macro_rules | `(tactic| walk_at "rds") => `(tactic| (dsimp only [cxOf, Cx.nox, Cx.wish, Cx.blk, L2.start]; walk_at "rd"))
local macro_rules | `(tactic| walk_at "rdn") => `(tactic| (repeat (first | walk_at "rdn1" | dsimp only)))
section
variable {P : Program} {w : World} {K : PySem.W.Frag} {mg : Str → Option Value} {base : Heap}

def spRow : Sp := fun vs H Q _ => ∃ (t g : Addr) (n : Nat) (m : Int), vs = [.ref t, .int m] ∧ Tray H t g n ∧ n ≤ 700000 ∧ 0 < m ∧ m ≤ 8 ∧
  ∀ (v : V) (r : Rw) (H' : Hp), Rp H' v r.d → RwForm r → rowFits r m = true → Tray H' t g (n + 10) → Kp t g H H' → Q v H'
theorem use_row {t g : Addr} {n : Nat} {m : Int} {H : Hp} {Q : VK} {E : XK} (T : Tray H t g n) (hn : n ≤ 700000) (h0 : 0 < m) (h1 : m ≤ 8)
    (h : ∀ (v : V) (r : Rw) (H' : Hp), Rp H' v r.d → RwForm r → rowFits r m = true → Tray H' t g (n + 10) → Kp t g H H' → Q v H') : spRow [.ref t, .int m] H Q E := ⟨t, g, n, m, rfl, T, hn, h0, h1, h⟩
theorem row_ok {w : Str} {ns : List Int} {l : Str} {m : Int} (h : formOf w = some l) (hl : l.cps.size = ns.length) (hf : fitsNs l.cps.toList ns m = true) : RwForm ⟨w, ns⟩ ∧ rowFits ⟨w, ns⟩ m = true := by
  refine ⟨⟨l, h, hl⟩, ?_⟩
  unfold rowFits
  show (match formOf w with | some l => fitsNs l.cps.toList ns m | none => false) = true
  rw [h]
  exact hf
theorem ok_row {f : Addr} {fd : FuncData} (B : BT mg) (F : Fun K "_law_row" "_law_row" s_law_row f fd) (hm : mg "_law_row" = some (.ref f)) (C_law_draw : Cal P w K mg base "_law_draw" 1 ["tray", "many"] spDraw) (C_law_number : Cal P w K mg base "_law_number" 3 ["tray"] spNumber) :
    Cal P w K mg base "_law_row" 4 ["tray", "many"] spRow := by
  refine ⟨f, fd, hm, F.kp, F.binds (ps := ["tray", "many"]) fun _ _ _ _ _ _ us hl => match us, hl with | [_, _], _ => rfl, ?_⟩
  refine F.ok sc_law_row (fun vs H Q E h => ?_) (fun cdv A outer s H vs Q E hr h => ?_)
  · obtain ⟨t, g, n, m, rfl, _⟩ := h
    rfl
  · obtain ⟨t, g, n, m, rfl, T, hn, m0, m8, k⟩ := h
    refine ⟨_, (pss_cons (ps_set (i := 2) sc_law_row.nd rfl (Or.inl rfl) (pe_lst (pa_cons pe_str (pa_cons pe_str (pa_cons pe_str (pa_cons pe_str (pa_cons pe_str (pa_cons pe_str (pa_cons pe_str (pa_cons pe_str (pa_cons pe_str (pa_cons pe_str (pa_cons pe_str (pa_cons pe_str pa_nil))))))))))))))
 (pss_cons (ps_set (i := 3) sc_law_row.nd rfl (Or.inl rfl) (pe_ix (r := rIxL K) ix_list (pv 2) (pe_cal C_law_draw (hr.mono (by omega)) rfl (pa_cons (pv 0) (pa_cons pe_int pa_nil))) (fun _ _ => rfl)))
 (pss_cons (ps_set (i := 4) sc_law_row.nd rfl (Or.inl rfl) (pe_cal C_law_draw (hr.mono (by omega)) rfl (pa_cons (pv 0) (pa_cons pe_int pa_nil))))
 (pss_cons (ps_set (i := 5) sc_law_row.nd rfl (Or.inl rfl) (pe_cal C_law_draw (hr.mono (by omega)) rfl (pa_cons (pv 0) (pa_cons pe_int pa_nil))))
 (pss_cons (ps_set (i := 6) sc_law_row.nd rfl (Or.inl rfl) (pe_cal C_law_number (hr.mono (by omega)) rfl (pa_cons (pv 0) pa_nil)))
 (pss_cons (ps_if (pt_cmpR (r := rIn K false) op_in_seq (pv 3) (pe_lst (pa_cons pe_str (pa_cons pe_str (pa_cons pe_str (pa_cons pe_str pa_nil))))) (by rfl)) (pss_one (ps_ret (pe_tup (pa_cons (pv 3) (pa_cons (pv 6) pa_nil))))) pss_nil)
 (pss_cons (ps_if (pt_cmpR (r := rIn K false) op_in_seq (pv 3) (pe_lst (pa_cons pe_str (pa_cons pe_str pa_nil))) (by rfl)) (pss_one (ps_ret (pe_tup (pa_cons (pv 3) (pa_cons (pv 4) (pa_cons (pv 6) pa_nil)))))) pss_nil)
 (pss_cons (ps_if (pt_cmpR (r := rIn K false) op_in_seq (pv 3) (pe_lst (pa_cons pe_str (pa_cons pe_str (pa_cons pe_str pa_nil)))) (by rfl)) (pss_one (ps_ret (pe_tup (pa_cons (pv 3) (pa_cons (pv 5) (pa_cons (pv 4) (pa_cons (pv 6) pa_nil))))))) pss_nil)
 (pss_cons (ps_if (pt_cmpR op_eq (pv 3) pe_str (nomark _)) (pss_one (ps_ret (pe_tup (pa_cons (pv 3) (pa_cons (pv 5) (pa_cons (pe_cal C_law_draw (hr.mono (by omega)) rfl (pa_cons (pv 0) (pa_cons (pv 1) pa_nil))) (pa_cons (pv 6) pa_nil))))))) pss_nil)
 (pss_one (ps_ret (pe_ix (r := rIxL K) ix_list (pe_lst (pa_cons (pe_tup (pa_cons (pv 3) (pa_cons (pv 4) pa_nil))) (pa_cons (pe_tup (pa_cons (pv 3) pa_nil)) pa_nil))) (pe_callTy call_int1 rfl B.g_int (by decide +kernel) (pa_cons (pe_cmpR op_eq (pv 3) pe_str (nomark _)) pa_nil)) (fun _ _ => rfl))))))))))))), ?_⟩
    walk_at "rds"
    intro ps hps
    walk_at "rd"
    refine use_draw (T.new hps) (by omega) (by decide) (by decide) fun r1 H1 a1 b1 T1 k1 => ?_
    obtain ⟨w, hw, ew⟩ := at_str (l := opsL) a1 b1
    have hL : H1 ps = some (.lst (opsL.map V.str)) := k1 _ _ upd_same (T.net hps) (T.neg hps)
    refine rd_ixL hL ew ?_
    walk_at "rd"
    refine use_draw T1 (by omega) (by decide) (by decide) fun p H2 a2 b2 T2 k2 => ?_
    walk_at "rd"
    refine use_draw T2 (by omega) (by decide) (by decide) fun q H3 a3 b3 T3 k3 => ?_
    walk_at "rd"
    refine use_number T3 (by omega) fun z H4 a4 b4 T4 k4 => ?_
    have kk : Kp t g H H4 := (((Kp.new hps).trans k1).trans (k2.trans k3)).trans k4
    obtain ⟨fA, fB⟩ := ops_all w hw
    walk_at "rd"
    intro p5 h5
    have T5 := T4.new (o := .lst (opsA.map V.str)) h5
    have k5 : Kp t g H _ := kk.trans (Kp.new (o := .lst (opsA.map V.str)) h5)
    refine rd_in (xs := opsA.map V.str) upd_same rfl rfl ?_
    walk_at "rd"
    refine rd_ifb (fun hA => ?_) (fun hA => ?_)
    · walk_at "rd"
      intro p6 h6
      obtain ⟨o1, o2⟩ := row_ok (ns := [z]) (m := m) (fA hA) rfl rfl
      exact k _ ⟨w, [z]⟩ _ (.tup upd_same (.cons (.str _) (.cons (.int _) .nil))) o1 o2 ((T5.new h6).mono (by omega)) (k5.trans (Kp.new h6))
    · obtain ⟨fB1, fC⟩ := fB hA
      walk_at "rd"
      intro p6 h6
      have T6 := T5.new (o := .lst (opsB.map V.str)) h6
      have k6 : Kp t g H _ := k5.trans (Kp.new (o := .lst (opsB.map V.str)) h6)
      refine rd_in (xs := opsB.map V.str) upd_same rfl rfl ?_
      walk_at "rd"
      refine rd_ifb (fun hB => ?_) (fun hB => ?_)
      · walk_at "rd"
        intro p7 h7
        obtain ⟨o1, o2⟩ := row_ok (ns := [p, z]) (m := m) (fB1 hB) rfl (by show (below p 4 && (true && true)) = true; rw [below_of a2 b2]; rfl)
        exact k _ ⟨w, [p, z]⟩ _ (.tup upd_same (.cons (.str _) (.cons (.int _) (.cons (.int _) .nil)))) o1 o2 ((T6.new h7).mono (by omega)) (k6.trans (Kp.new h7))
      · obtain ⟨fC1, fD⟩ := fC hB
        walk_at "rd"
        intro p7 h7
        have T7 := T6.new (o := .lst (opsC.map V.str)) h7
        have k7 : Kp t g H _ := k6.trans (Kp.new (o := .lst (opsC.map V.str)) h7)
        refine rd_in (xs := opsC.map V.str) upd_same rfl rfl ?_
        walk_at "rd"
        refine rd_ifb (fun hC => ?_) (fun hC => ?_)
        · walk_at "rd"
          intro p8 h8
          obtain ⟨o1, o2⟩ := row_ok (ns := [q, p, z]) (m := m) (fC1 hC) rfl (by show (below q 4 && (below p 4 && (true && true))) = true; rw [below_of a2 b2, below_of a3 b3]; rfl)
          exact k _ ⟨w, [q, p, z]⟩ _ (.tup upd_same (.cons (.str _) (.cons (.int _) (.cons (.int _) (.cons (.int _) .nil))))) o1 o2 ((T7.new h8).mono (by omega)) (k7.trans (Kp.new h8))
        · obtain ⟨fD1, fE⟩ := fD hC
          walk_at "rd"
          refine rd_ifS (fun hD => ?_) (fun hD => ?_)
          · walk_at "rd"
            refine use_draw T7 (by omega) m0 (by omega) fun sg H8 a8 b8 T8 k8 => ?_
            walk_at "rd"
            intro p9 h9
            obtain ⟨o1, o2⟩ := row_ok (ns := [q, sg, z]) (m := m) (fD1 hD) rfl (by show (below q 4 && (below sg m && (true && true))) = true; rw [below_of a3 b3, below_of a8 b8]; rfl)
            exact k _ ⟨w, [q, sg, z]⟩ _ (.tup upd_same (.cons (.str _) (.cons (.int _) (.cons (.int _) (.cons (.int _) .nil))))) o1 o2 ((T8.new h9).mono (by omega)) ((k7.trans k8).trans (Kp.new h9))
          · obtain ⟨fE1, fE2⟩ := fE hD
            walk_at "rd"
            intro p8 h8
            walk_at "rd"
            intro p9 h9
            walk_at "rd"
            intro p10 h10
            walk_at "rd"
            refine .inr ⟨_, rfl, ?_⟩
            have T8 := ((T7.new (o := .tup [.str w, .int p]) h8).new (o := .tup [.str w]) h9).new (o := .lst [.ref p8, .ref p9]) h10
            have k8 : Kp t g H _ := ((k7.trans (Kp.new (o := .tup [.str w, .int p]) h8)).trans (Kp.new (o := .tup [.str w]) h9)).trans (Kp.new (o := .lst [.ref p8, .ref p9]) h10)
            by_cases hE : w = "return"
            · subst hE
              refine rd_ixL (i := if decide (V.str ("return" : Str) = V.str "return") = true then 1 else 0) (xs := [.ref p8, .ref p9]) (v := .ref p9) upd_same (by rw [decide_eq_true rfl]; rfl) ?_
              obtain ⟨o1, o2⟩ := row_ok (ns := []) (m := m) (fE1 rfl) rfl rfl
              exact k _ ⟨"return", []⟩ _ (.tup (by rw [upd_ne (ne_of_none upd_same h10), upd_same]) (.cons (.str _) .nil)) o1 o2 (T8.mono (by omega)) k8
            · have hE' : ¬ V.str w = V.str "return" := fun e => hE (by injection e)
              refine rd_ixL (i := if decide (V.str w = V.str "return") = true then 1 else 0) (xs := [.ref p8, .ref p9]) (v := .ref p8) upd_same (by rw [decide_eq_false hE']; rfl) ?_
              obtain ⟨o1, o2⟩ := row_ok (ns := [p]) (m := m) (fE2 hE) rfl (by show (below p 4 && true) = true; rw [below_of a2 b2]; rfl)
              exact k _ ⟨w, [p]⟩ _ (.tup ((same_upd h10) _ _ ((same_upd h9) _ _ upd_same)) (.cons (.str _) (.cons (.int _) .nil))) o1 o2 (T8.mono (by omega)) k8
/-- a word -/
def spWord : Sp := fun vs H Q _ => ∃ (t g : Addr) (n : Nat) (m b : Int), vs = [.ref t, .int m, .int b] ∧ Tray H t g n ∧ n ≤ 700000 ∧ 0 < m ∧ m ≤ 8 ∧ 2 ≤ b ∧ b ≤ 1000000000000000000000000000000000000000000000000000000000000 ∧
  ∀ (v : V) (x : Wd) (H' : Hp), Rp H' v x.d → wdFits x b m = true → Tray H' t g (n + 10) → Kp t g H H' → Q v H'
theorem use_word {t g : Addr} {n : Nat} {m b : Int} {H : Hp} {Q : VK} {E : XK} (T : Tray H t g n) (hn : n ≤ 700000) (h0 : 0 < m) (h1 : m ≤ 8) (h2 : 2 ≤ b) (h3 : b ≤ 1000000000000000000000000000000000000000000000000000000000000)
    (h : ∀ (v : V) (x : Wd) (H' : Hp), Rp H' v x.d → wdFits x b m = true → Tray H' t g (n + 10) → Kp t g H H' → Q v H') : spWord [.ref t, .int m, .int b] H Q E := ⟨t, g, n, m, b, rfl, T, hn, h0, h1, h2, h3, h⟩
theorem ok_word {f : Addr} {fd : FuncData} (B : BT mg) (F : Fun K "_law_word" "_law_word" s_law_word f fd) (hm : mg "_law_word" = some (.ref f)) (C_law_draw : Cal P w K mg base "_law_draw" 1 ["tray", "many"] spDraw) (C_law_great : Cal P w K mg base "_law_great" 2 ["tray"] spGreat) :
    Cal P w K mg base "_law_word" 3 ["tray", "many", "radix"] spWord := by
  refine ⟨f, fd, hm, F.kp, F.binds (ps := ["tray", "many", "radix"]) fun _ _ _ _ _ _ us hl => match us, hl with | [_, _, _], _ => rfl, ?_⟩
  refine F.ok sc_law_word (fun vs H Q E h => ?_) (fun cdv A outer s H vs Q E hr h => ?_)
  · obtain ⟨t, g, n, m, b, rfl, _⟩ := h
    rfl
  · obtain ⟨t, g, n, m, b, rfl, T, hn, m0, m8, b2, bB, k⟩ := h
    refine ⟨_, (pss_cons (ps_if (pt_cmpR op_gt (pe_cal C_law_draw (hr.mono (by omega)) rfl (pa_cons (pv 0) (pa_cons pe_int pa_nil))) pe_int (nomark _)) (pss_one (ps_ret (pe_tup (pa_cons pe_str (pa_cons (pe_ix (r := rIxL K) ix_list (pe_lst (pa_cons (pe_cal C_law_draw (hr.mono (by omega)) rfl (pa_cons (pv 0) (pa_cons (pv 2) pa_nil))) (pa_cons (pe_op op_sub (pv 2) pe_int) pa_nil))) (pe_op op_fdivW (pe_cal C_law_draw (hr.mono (by omega)) rfl (pa_cons (pv 0) (pa_cons pe_int pa_nil))) pe_int) (fun _ _ => rfl)) pa_nil))))) pss_nil)
 (pss_cons (ps_set (i := 3) sc_law_word.nd rfl (Or.inl rfl) (pe_ix (r := rIxL K) ix_list (pe_lst (pa_cons (pe_cal C_law_draw (hr.mono (by omega)) rfl (pa_cons (pv 0) (pa_cons pe_int pa_nil))) (pa_cons (pe_cal C_law_great (hr.mono (by omega)) rfl (pa_cons (pv 0) pa_nil)) pa_nil))) (pe_op op_fdivW (pe_cal C_law_draw (hr.mono (by omega)) rfl (pa_cons (pv 0) (pa_cons pe_int pa_nil))) pe_int) (fun _ _ => rfl)))
 (pss_one (ps_ret (pe_tup (pa_cons pe_str (pa_cons (pe_cal C_law_draw (hr.mono (by omega)) rfl (pa_cons (pv 0) (pa_cons pe_int pa_nil))) (pa_cons (pe_cal C_law_draw (hr.mono (by omega)) rfl (pa_cons (pv 0) (pa_cons (pv 1) pa_nil))) (pa_cons (pv 3) pa_nil))))))))), ?_⟩
    walk_at "rds"
    refine use_draw T (by omega) (by decide) (by decide) fun r1 H1 a1 b1 T1 k1 => ?_
    walk_at "rd"
    refine rd_ifd (fun hc => ?_) (fun hc => ?_)
    · walk_at "rd"
      refine use_draw T1 (by omega) (by omega) bB fun r2 H2 a2 b2' T2 k2 => ?_
      walk_at "rd"
      intro p3 h3
      walk_at "rd"
      refine use_draw (T2.new h3) (by omega) (by decide) (by decide) fun r3 H3 a3 b3 T3 k3 => ?_
      walk_at "rd"
      refine rd_fdivW div3 ?_
      refine rd_ixL (k3 _ _ upd_same (T2.net h3) (T2.neg h3)) (at_two (by omega) (by omega)) ?_
      walk_at "rd"
      by_cases hz : r3 / 3 = 0
      · rw [if_pos hz]
        walk_at "rd"
        intro p4 h4
        exact k _ (.num r2) _ (.tup upd_same (.cons (.str _) (.cons (.int _) .nil))) (below_of a2 b2') ((T3.new h4).mono (by omega)) (((k1.trans k2).trans (Kp.new h3)).trans (k3.trans (Kp.new h4)))
      · rw [if_neg hz]
        walk_at "rd"
        intro p4 h4
        exact k _ (.num (b - 1)) _ (.tup upd_same (.cons (.str _) (.cons (.int _) .nil))) (below_of (by omega) (by omega)) ((T3.new h4).mono (by omega)) (((k1.trans k2).trans (Kp.new h3)).trans (k3.trans (Kp.new h4)))
    · walk_at "rd"
      refine use_draw T1 (by omega) (by decide) (by decide) fun r2 H2 a2 b2' T2 k2 => ?_
      walk_at "rd"
      refine use_great T2 (by omega) fun r3 H3 a3 b3 T3 k3 => ?_
      walk_at "rd"
      intro p4 h4
      walk_at "rd"
      refine use_draw (T3.new h4) (by omega) (by decide) (by decide) fun r4 H4 a4 b4 T4 k4 => ?_
      walk_at "rd"
      refine rd_fdivW div7 ?_
      have hv : ∃ pl : Int, 0 ≤ pl ∧ (if r4 / 7 = 0 then V.int r2 else V.int r3) = .int pl := by
        by_cases hz : r4 / 7 = 0
        · exact ⟨r2, a2, by rw [if_pos hz]⟩
        · exact ⟨r3, a3, by rw [if_neg hz]⟩
      obtain ⟨pl, hp0, hpe⟩ := hv
      refine rd_ixL (k4 _ _ upd_same (T3.net h4) (T3.neg h4)) ((at_two (by omega) (by omega)).trans (congrArg some hpe)) ?_
      walk_at "rd"
      refine use_draw T4 (by omega) (by decide) (by decide) fun r5 H5 a5 b5 T5 k5 => ?_
      walk_at "rd"
      refine use_draw T5 (by omega) m0 (by omega) fun r6 H6 a6 b6 T6 k6 => ?_
      walk_at "rd"
      intro p7 h7
      exact k _ (.ptr r5 r6 pl) _ (.tup upd_same (.cons (.str _) (.cons (.int _) (.cons (.int _) (.cons (.int _) .nil))))) (by show (below r5 8 && (below r6 m && decide (0 ≤ pl))) = true; rw [below_of a5 b5, below_of a6 b6, decide_eq_true hp0]; rfl) ((T6.new h7).mono (by omega))
        ((((k1.trans k2).trans k3).trans (Kp.new h4)).trans (((k4.trans k5).trans k6).trans (Kp.new h7)))

end
end Rg

namespace Rg
open PySem PySem.Spec L2
local macro_rules | `(tactic| walk_at "rd1") => `(tactic| first
  | with_reducible refine rd_seq ?_
  | with_reducible refine rd_asg ?_
  | ((with_reducible show tVar _ _ _ _); refine rd_var rfl ?_)
  | with_reducible refine rd_c ?_
  | with_reducible refine rd_op ?_
  | with_reducible refine rd_I0 ?_
  | with_reducible refine rd_name ?_
  | with_reducible refine rd_ret ?_
  | with_reducible refine rd_ifs ?_
  | with_reducible refine rd_test ?_
  | with_reducible refine rd_tB ?_
  | with_reducible refine rd_bl ?_
  | with_reducible refine rd_drop ?_
  | with_reducible refine rd_nil ?_
  | with_reducible refine rd_cons ?_
  | with_reducible refine rd_call ?_
  | with_reducible refine rd_cb ?_
  | with_reducible refine rd_tup ?_
  | with_reducible refine rd_lst ?_
  | with_reducible refine rd_and ?_
  | with_reducible refine rd_or ?_
  | with_reducible refine rd_not ?_
  | with_reducible refine rd_andV ?_
  | with_reducible refine rd_orV ?_
  | with_reducible refine rd_notV ?_
  | with_reducible refine rd_chain ?_
  | with_reducible refine rd_un ?_
  | with_reducible refine rd_isN ?_
  | with_reducible refine rd_bm ?_
  | with_reducible refine rd_bm0 ?_
  | with_reducible refine rd_gsub ?_
  | with_reducible refine rd_sl ?_
  | with_reducible refine rd_gt ?_
  | with_reducible refine rd_yes ?_
  | with_reducible refine rd_gcons ?_
  | with_reducible refine rd_gnil ?_
  | with_reducible refine rd_part ?_
  | with_reducible refine rd_nopart ?_
  | ((with_reducible show gTup _ _ _ _ _ _ _); refine rd_gtup (by first | assumption | exact upd_same) rfl ?_)
  | ((with_reducible show gLst _ _ _ _ _ _ _); refine rd_glst (by first | assumption | exact upd_same) rfl ?_)
  | ((with_reducible show rIsi _ _ _ _); first | refine rd_isi (b := true) (.ty _) (.base (by first | exact .int _ | exact .str _ | exact .bl _ | exact .non | exact .tup (by assumption) | exact .lst (by assumption))) (kit_ty (by decide +kernel)) ?_ | refine rd_isi (b := false) (.ty _) (.base (by first | exact .int _ | exact .str _ | exact .bl _ | exact .non | exact .tup (by assumption) | exact .lst (by assumption))) (kit_ty (by decide +kernel)) ?_)
  | with_reducible refine rd_fld ?_
  | with_reducible refine rd_sfld ?_
  | with_reducible refine rd_meth ?_
  | with_reducible refine rd_make ?_
  | with_reducible refine rd_makeK ?_
  | with_reducible refine rd_U ?_
  | with_reducible refine rd_makeKS ?_
  | with_reducible refine rd_callN ?_
  | with_reducible refine rd_rs ?_
  | with_reducible refine rd_rf ?_
  | with_reducible refine rd_star ?_
  | with_reducible refine rd_callS ?_
  | with_reducible refine rd_for ?_
  | with_reducible refine rd_lc ?_
  | with_reducible refine rd_ilist ?_
  | with_reducible refine rd_itup ?_
  | with_reducible refine rd_irng ?_
  | with_reducible refine rd_izipS ?_
  | with_reducible refine rd_ienum ?_
  | with_reducible refine rd_ienT ?_
  | with_reducible refine rd_next ?_
  | with_reducible refine rd_eq rfl ?_
  | with_reducible refine rd_ne rfl ?_
  | with_reducible refine iteT ?_
  | with_reducible refine iteF ?_
  | with_reducible refine rd_ifnT ?_
  | with_reducible refine rd_ifnF ?_
  | ((with_reducible show rI (fun _ j => (0 : Int) < j) _ _ _ _ _); refine rd_mod (by omega) ?_)
  | with_reducible refine rd_new rfl ?_
  | ((with_reducible show rIxL _ _ (V.int 0) _ _); refine rd_ixL0 (by first | assumption | exact upd_same) ?_)
  | ((with_reducible show rIxL _ _ _ _ _); refine rd_ixL (by first | assumption | exact upd_same) rfl ?_)
  | ((with_reducible show rSetL _ _ _ _ _); refine rd_setL (by first | assumption | exact upd_same) rfl ?_)
  | ((with_reducible show rI CMul _ _ _ _ _); refine rd_mul (by first | exact Or.inl ⟨by omega, by omega⟩ | exact Or.inr ⟨by omega, by omega⟩) ?_)
  | ((with_reducible show tyV _ "list" _ _ ∧ _); refine rd_tyL (by first | assumption | exact upd_same) ?_)
  | ((with_reducible show rIxT _ _ (V.int 0) _ _); refine rd_ixT0 (by first | assumption | exact upd_same) ?_)
  | ((with_reducible show rIxT _ _ _ _ _); refine rd_ixT (by first | assumption | exact upd_same) rfl ?_))
local macro_rules | `(tactic| walk_at "rdn1") => `(tactic| first
  | with_reducible refine rd_seq ?_
  | with_reducible refine rd_asg ?_
  | ((with_reducible show tVar _ _ _ _); refine rd_var rfl ?_)
  | with_reducible refine rd_c ?_
  | with_reducible refine rd_op ?_
  | with_reducible refine rd_I0 ?_
  | with_reducible refine rd_name ?_
  | with_reducible refine rd_ret ?_
  | with_reducible refine rd_ifs ?_
  | with_reducible refine rd_test ?_
  | with_reducible refine rd_tB ?_
  | with_reducible refine rd_bl ?_
  | with_reducible refine rd_drop ?_
  | with_reducible refine rd_nil ?_
  | with_reducible refine rd_cons ?_
  | with_reducible refine rd_call ?_
  | with_reducible refine rd_cb ?_
  | with_reducible refine rd_tup ?_
  | with_reducible refine rd_lst ?_
  | with_reducible refine rd_and ?_
  | with_reducible refine rd_or ?_
  | with_reducible refine rd_not ?_
  | with_reducible refine rd_notV ?_
  | with_reducible refine rd_chain ?_
  | with_reducible refine rd_un ?_
  | with_reducible refine rd_isN ?_
  | with_reducible refine rd_bm ?_
  | with_reducible refine rd_bm0 ?_
  | with_reducible refine rd_gsub ?_
  | with_reducible refine rd_sl ?_
  | with_reducible refine rd_gt ?_
  | with_reducible refine rd_yes ?_
  | with_reducible refine rd_gcons ?_
  | with_reducible refine rd_gnil ?_
  | with_reducible refine rd_part ?_
  | with_reducible refine rd_nopart ?_
  | ((with_reducible show gTup _ _ _ _ _ _ _); refine rd_gtup (by first | assumption | exact upd_same) rfl ?_)
  | ((with_reducible show gLst _ _ _ _ _ _ _); refine rd_glst (by first | assumption | exact upd_same) rfl ?_)
  | ((with_reducible show rIsi _ _ _ _); first | refine rd_isi (b := true) (.ty _) (.base (by first | exact .int _ | exact .str _ | exact .bl _ | exact .non | exact .tup (by assumption) | exact .lst (by assumption))) (kit_ty (by decide +kernel)) ?_ | refine rd_isi (b := false) (.ty _) (.base (by first | exact .int _ | exact .str _ | exact .bl _ | exact .non | exact .tup (by assumption) | exact .lst (by assumption))) (kit_ty (by decide +kernel)) ?_)
  | with_reducible refine rd_fld ?_
  | with_reducible refine rd_sfld ?_
  | with_reducible refine rd_meth ?_
  | with_reducible refine rd_make ?_
  | with_reducible refine rd_makeK ?_
  | with_reducible refine rd_U ?_
  | with_reducible refine rd_makeKS ?_
  | with_reducible refine rd_callN ?_
  | with_reducible refine rd_rs ?_
  | with_reducible refine rd_rf ?_
  | with_reducible refine rd_star ?_
  | with_reducible refine rd_callS ?_
  | with_reducible refine rd_for ?_
  | with_reducible refine rd_lc ?_
  | with_reducible refine rd_ilist ?_
  | with_reducible refine rd_itup ?_
  | with_reducible refine rd_irng ?_
  | with_reducible refine rd_izipS ?_
  | with_reducible refine rd_ienum ?_
  | with_reducible refine rd_ienT ?_
  | with_reducible refine rd_next ?_
  | with_reducible refine rd_eq rfl ?_
  | with_reducible refine rd_ne rfl ?_
  | with_reducible refine iteT ?_
  | with_reducible refine iteF ?_
  | with_reducible refine rd_ifnT ?_
  | with_reducible refine rd_ifnF ?_
  | ((with_reducible show rI (fun _ j => (0 : Int) < j) _ _ _ _ _); refine rd_mod (by omega) ?_)
  | with_reducible refine rd_new rfl ?_
  | ((with_reducible show rIxL _ _ (V.int 0) _ _); refine rd_ixL0 (by first | assumption | exact upd_same) ?_)
  | ((with_reducible show rIxL _ _ _ _ _); refine rd_ixL (by first | assumption | exact upd_same) rfl ?_)
  | ((with_reducible show rSetL _ _ _ _ _); refine rd_setL (by first | assumption | exact upd_same) rfl ?_)
  | ((with_reducible show rI CMul _ _ _ _ _); refine rd_mul (by first | exact Or.inl ⟨by omega, by omega⟩ | exact Or.inr ⟨by omega, by omega⟩) ?_)
  | ((with_reducible show tyV _ "list" _ _ ∧ _); refine rd_tyL (by first | assumption | exact upd_same) ?_)
  | ((with_reducible show rIxT _ _ (V.int 0) _ _); refine rd_ixT0 (by first | assumption | exact upd_same) ?_)
  | ((with_reducible show rIxT _ _ _ _ _); refine rd_ixT (by first | assumption | exact upd_same) rfl ?_))
local macro_rules | `(tactic| walk_at "rd") => `(tactic| (repeat (first | walk_at "rd1" | dsimp only)))
local macro_rules | `(tactic| walk_at "rds") => `(tactic| (dsimp only [cxOf, Cx.nox, Cx.wish, Cx.blk, L2.start]; walk_at "rd"))
local macro_rules | `(tactic| walk_at "rdn") => `(tactic| (repeat (first | walk_at "rdn1" | dsimp only)))
section
variable {P : Program} {w : World} {K : PySem.W.Frag} {mg : Str → Option Value} {base : Heap}

theorem big60 : (70000 : Int) ≤ 1000000000000000000000000000000000000000000000000000000000000 := by decide
theorem at_in {α : Type} {xs : List α} {r : Int} (h0 : 0 ≤ r) (h1 : r < (xs.length : Int)) : ∃ (j : Nat) (c : α), r = (j : Int) ∧ xs[j]? = some c ∧ atI xs r = some c := by
  obtain ⟨j, rfl⟩ := Int.eq_ofNat_of_zero_le h0
  have hj : j < xs.length := by omega
  have e : xs[j]? = some xs[j] := List.getElem?_eq_getElem hj
  exact ⟨j, _, rfl, e, atI_nat e⟩
def spSign : Sp := fun vs H Q _ => ∃ (t g : Addr) (n : Nat), vs = [.ref t] ∧ Tray H t g n ∧ n ≤ 900000 ∧ ∀ (z : Str) (H' : Hp), T7 z 1 → Tray H' t g (n + 2) → Kp t g H H' → Q (.str z) H'
theorem str_at {z : Str} {m : Nat} {r : Int} (h : T7 z m) (h0 : 0 ≤ r) (h1 : r < (z.length : Int)) : ∃ c, atI z.cps.toList r = some c ∧ T7 ⟨#[c]⟩ 1 := by
  have e : z.length = z.cps.toList.length := by rw [Array.length_toList]; rfl
  obtain ⟨j, c, _, _, q⟩ := at_in (xs := z.cps.toList) h0 (by rw [← e]; exact h1)
  exact ⟨c, q, h.at q⟩
theorem ok_sign {f : Addr} {fd : FuncData} (B : BT mg) (F : Fun K "_law_sign" "_law_sign" s_law_sign f fd) (hm : mg "_law_sign" = some (.ref f)) (C_law_draw : Cal P w K mg base "_law_draw" 1 ["tray", "many"] spDraw) : Cal P w K mg base "_law_sign" 2 ["tray"] spSign := by
  refine ⟨f, fd, hm, F.kp, F.binds (ps := ["tray"]) fun _ _ _ _ _ _ us hl => match us, hl with | [_], _ => rfl, ?_⟩
  refine F.ok sc_law_sign (fun vs H Q E h => ?_) (fun cdv A outer s H vs Q E hr h => ?_)
  · obtain ⟨t, g, n, rfl, _⟩ := h
    rfl
  · obtain ⟨t, g, n, rfl, T, hn, k⟩ := h
    refine ⟨_, (pss_cons (ps_if (pt_cmpR op_eq (pe_cal C_law_draw (hr.mono (by omega)) rfl (pa_cons (pv 0) (pa_cons pe_int pa_nil))) pe_int (nomark _)) (pss_cons (ps_set (i := 1) sc_law_sign.nd rfl (Or.inl rfl) pe_str)
 (pss_one (ps_ret (pe_ix (r := rIxS) ix_str (pv 1) (pe_cal C_law_draw (hr.mono (by omega)) rfl (pa_cons (pv 0) (pa_cons (pe_callB call_len_str rfl B.g_len PySem.boot_len (pa_cons (pv 1) pa_nil)) pa_nil))) (fun _ _ => rfl))))) pss_nil)
 (pss_cons (ps_set (i := 1) sc_law_sign.nd rfl (Or.inl rfl) pe_str)
 (pss_cons (ps_set (i := 1) sc_law_sign.nd rfl (Or.inl rfl) (pe_op op_add_str (pv 1) pe_str))
 (pss_one (ps_ret (pe_ix (r := rIxS) ix_str (pv 1) (pe_cal C_law_draw (hr.mono (by omega)) rfl (pa_cons (pv 0) (pa_cons (pe_callB call_len_str rfl B.g_len PySem.boot_len (pa_cons (pv 1) pa_nil)) pa_nil))) (fun _ _ => rfl))))))), ?_⟩
    walk_at "rds"
    refine use_draw T (by omega) (by decide) (by decide) fun r1 H1 a1 b1 T1 k1 => ?_
    walk_at "rd"
    refine rd_ifI (fun h1 => ?_) (fun h1 => ?_)
    · walk_at "rd"
      refine ⟨_, rfl, by rw [sizeLine_eq]; decide +kernel, ?_⟩
      walk_at "rd"
      refine use_draw (m := ((" ,;.:[]()-0123456789rwxaimsetlodcg" : Str).length : Int)) T1 (by omega) (by decide +kernel) (by decide +kernel) fun r H2 ra rb T2 k2 => ?_
      obtain ⟨c, e, hc⟩ := str_at (m := 1000) (t7_of (by decide +kernel)) ra rb
      exact ⟨_, r, c, rfl, rfl, by rw [sizeLine_eq]; decide +kernel, e, k _ _ hc T2 (k1.trans k2)⟩
    · walk_at "rd"
      refine ⟨_, _, rfl, rfl, by rw [sizeLine_eq]; decide +kernel, ?_⟩
      walk_at "rd"
      refine ⟨_, rfl, by rw [sizeLine_eq]; decide +kernel, ?_⟩
      walk_at "rd"
      refine use_draw (m := (((" !\"#$&'()*+,-./0123456789:;<=>?@ABCDEFGHIJKLMNOPQRSTUVWXYZ[\\]^_`" : Str) ++ ("abcdefghijklmnopqrstuvwxyz{|}~" : Str)).length : Int)) T1 (by omega) (by decide +kernel) (by decide +kernel) fun r H2 ra rb T2 k2 => ?_
      obtain ⟨c, e, hc⟩ := str_at (m := 1000) (t7_of (by decide +kernel)) ra rb
      exact ⟨_, r, c, rfl, rfl, by rw [sizeLine_eq]; decide +kernel, e, k _ _ hc T2 (k1.trans k2)⟩
def spSignSpoilt : Sp := fun vs H Q _ => ∃ (t g : Addr) (n : Nat) (z : Str) (m : Nat), vs = [.ref t, .str z] ∧ Tray H t g n ∧ n ≤ 800000 ∧ T7 z m ∧ m ≤ 60000 ∧ ∀ (z' : Str) (H' : Hp), T7 z' (m + 1) → Tray H' t g (n + 4) → Kp t g H H' → Q (.str z') H'
theorem ok_sign_spoilt {f : Addr} {fd : FuncData} (B : BT mg) (F : Fun K "_law_sign_spoilt" "_law_sign_spoilt" s_law_sign_spoilt f fd) (hm : mg "_law_sign_spoilt" = some (.ref f)) (C_law_draw : Cal P w K mg base "_law_draw" 1 ["tray", "many"] spDraw) (C_law_sign : Cal P w K mg base "_law_sign" 2 ["tray"] spSign) : Cal P w K mg base "_law_sign_spoilt" 3 ["tray", "text"] spSignSpoilt := by
  refine ⟨f, fd, hm, F.kp, F.binds (ps := ["tray", "text"]) fun _ _ _ _ _ _ us hl => match us, hl with | [_, _], _ => rfl, ?_⟩
  refine F.ok sc_law_sign_spoilt (fun vs H Q E h => ?_) (fun cdv A outer s H vs Q E hr h => ?_)
  · obtain ⟨t, g, n, z, m, rfl, _⟩ := h
    rfl
  · obtain ⟨t, g, n, z, m, rfl, T, hn, h7, hm5, k⟩ := h
    refine ⟨_, (pss_cons (ps_set (i := 2) sc_law_sign_spoilt.nd rfl (Or.inl rfl) (pe_cal C_law_draw (hr.mono (by omega)) rfl (pa_cons (pv 0) (pa_cons pe_int pa_nil))))
 (pss_cons (ps_set (i := 3) sc_law_sign_spoilt.nd rfl (Or.inl rfl) (pe_cal C_law_draw (hr.mono (by omega)) rfl (pa_cons (pv 0) (pa_cons (pe_op op_add (pe_callB call_len_str rfl B.g_len PySem.boot_len (pa_cons (pv 1) pa_nil)) pe_int) pa_nil))))
 (pss_cons (ps_set (i := 4) sc_law_sign_spoilt.nd rfl (Or.inl rfl) (pe_ix (r := rIxL K) ix_list (pe_lst (pa_cons pe_str (pa_cons (pe_cal C_law_sign (hr.mono (by omega)) rfl (pa_cons (pv 0) pa_nil)) pa_nil))) (pe_callTy call_int1 rfl B.g_int (by decide +kernel) (pa_cons (pe_cmpR op_gt (pv 2) pe_int (nomark _)) pa_nil)) (fun _ _ => rfl)))
 (pss_one (ps_ret (pe_op op_add_str (pe_op op_add_str (pe_slice (r := rSlS) sl_str (pv 1) po_none (po_some (pv 3))) (pv 4)) (pe_slice (r := rSlS) sl_str (pv 1) (po_some (pe_op op_add (pv 3) (pe_callTy call_int1 rfl B.g_int (by decide +kernel) (pa_cons (pe_cmpR op_lt (pv 2) pe_int (nomark _)) pa_nil)))) po_none))))))), ?_⟩
    have hz := h7.line (by omega)
    have hzm := h7.2
    walk_at "rds"
    refine use_draw T (by omega) (by decide) (by decide) fun r1 H1 a1 b1 T1 k1 => ?_
    walk_at "rd"
    refine ⟨z, rfl, hz, ?_⟩
    walk_at "rd"
    walk_at "rd"
    refine use_draw (m := (z.length : Int) + 1) T1 (by omega) (by omega) (by have := big60; omega) fun r2 H2 a2 b2 T2 k2 => ?_
    walk_at "rd"
    refine ⟨t, g, n + 2, rfl, T2, by omega, fun y H3 hy T3 k3 => ?_⟩
    walk_at "rd"
    intro p hp
    walk_at "rd"
    refine .inr ⟨_, rfl, ?_⟩
    have hi : ∃ i : Int, (if decide (0 < r1) = true then (1 : Int) else 0) = i ∧ 0 ≤ i ∧ i < 2 := ⟨_, rfl, by split <;> omega, by split <;> omega⟩
    obtain ⟨i, ei, i0, i1⟩ := hi
    rw [ei]
    have hsg : ∃ sg : Str, atI [V.str "", V.str y] i = some (.str sg) ∧ T7 sg 1 := by
      rw [at_two i0 i1]
      by_cases h : i = 0
      · exact ⟨"", by rw [if_pos h], t7_of (by decide +kernel)⟩
      · exact ⟨y, by rw [if_neg h], hy⟩
    obtain ⟨sg, esg, hsg⟩ := hsg
    refine rd_ixL upd_same esg ?_
    walk_at "rd"
    have l1 : (cutS z none (some r2)).length ≤ r2.toNat := by
      show (((z.cps.toList.drop (HT.sIx z.length 0 none)).take (HT.sIx z.length z.length (some r2) - HT.sIx z.length 0 none)).toArray).size ≤ _
      rw [List.size_toArray, List.length_take, List.length_drop, Array.length_toList, HT.sIx_none]
      obtain ⟨j, rfl⟩ := Int.eq_ofNat_of_zero_le a2
      rw [HT.sIx_nat, Int.toNat_natCast]
      omega
    refine ⟨r2, rfl, z, rfl, hz, ?_⟩
    walk_at "rd"
    refine ⟨_, _, rfl, rfl, ?_, ?_⟩
    · have := hsg.2
      rw [sizeLine_eq]
      omega
    walk_at "rd"
    refine .inr ⟨_, rfl, ?_⟩
    have hj : ∃ i : Int, (if decide (r1 < 2) = true then (1 : Int) else 0) = i ∧ 0 ≤ i ∧ i < 2 := ⟨_, rfl, by split <;> omega, by split <;> omega⟩
    obtain ⟨j, ej, j0, j1⟩ := hj
    rw [ej]
    walk_at "rd"
    have l2 : (cutS z (some (r2 + j)) none).length ≤ z.length - r2.toNat := by
      show (((z.cps.toList.drop (HT.sIx z.length 0 (some (r2 + j)))).take (HT.sIx z.length z.length none - HT.sIx z.length 0 (some (r2 + j)))).toArray).size ≤ _
      rw [List.size_toArray, List.length_take, List.length_drop, Array.length_toList, HT.sIx_none]
      obtain ⟨q, hq⟩ := Int.eq_ofNat_of_zero_le (show 0 ≤ r2 + j by omega)
      rw [hq, HT.sIx_nat]
      show min (z.length - min q z.length) (z.cps.size - min q z.length) ≤ _
      omega
    refine ⟨_, rfl, z, rfl, hz, ?_⟩
    walk_at "rd"
    have h3 := ((h7.cut none (some r2)).cat hsg).cat (h7.cut (some (r2 + j)) none)
    have hlen : (cutS z none (some r2) ++ sg ++ cutS z (some (r2 + j)) none).length ≤ m + 1 := by
      rw [Str.length_append, Str.length_append]
      have := hsg.2
      omega
    refine ⟨_, _, rfl, rfl, ?_, ?_⟩
    · rw [← Str.length_append, sizeLine_eq]
      omega
    exact k _ _ ⟨h3.1, hlen⟩ ((T3.new hp).mono (by omega)) (((k1.trans k2).trans k3).trans (Kp.new hp))

end
end Rg

namespace Rg
open PySem PySem.Spec L2
local macro_rules | `(tactic| walk_at "rd1") => `(tactic| first
  | with_reducible refine rd_seq ?_
  | with_reducible refine rd_asg ?_
  | ((with_reducible show tVar _ _ _ _); refine rd_var rfl ?_)
  | with_reducible refine rd_c ?_
  | with_reducible refine rd_op ?_
  | with_reducible refine rd_I0 ?_
  | with_reducible refine rd_name ?_
  | with_reducible refine rd_ret ?_
  | with_reducible refine rd_ifs ?_
  | with_reducible refine rd_test ?_
  | with_reducible refine rd_tB ?_
  | with_reducible refine rd_bl ?_
  | with_reducible refine rd_drop ?_
  | with_reducible refine rd_nil ?_
  | with_reducible refine rd_cons ?_
  | with_reducible refine rd_call ?_
  | with_reducible refine rd_cb ?_
  | with_reducible refine rd_tup ?_
  | with_reducible refine rd_lst ?_
  | with_reducible refine rd_and ?_
  | with_reducible refine rd_or ?_
  | with_reducible refine rd_not ?_
  | with_reducible refine rd_andV ?_
  | with_reducible refine rd_orV ?_
  | with_reducible refine rd_notV ?_
  | with_reducible refine rd_chain ?_
  | with_reducible refine rd_un ?_
  | with_reducible refine rd_isN ?_
  | with_reducible refine rd_bm ?_
  | with_reducible refine rd_bm0 ?_
  | with_reducible refine rd_gsub ?_
  | with_reducible refine rd_sl ?_
  | with_reducible refine rd_gt ?_
  | with_reducible refine rd_yes ?_
  | with_reducible refine rd_gcons ?_
  | with_reducible refine rd_gnil ?_
  | with_reducible refine rd_part ?_
  | with_reducible refine rd_nopart ?_
  | ((with_reducible show gTup _ _ _ _ _ _ _); refine rd_gtup (by first | assumption | exact upd_same) rfl ?_)
  | ((with_reducible show gLst _ _ _ _ _ _ _); refine rd_glst (by first | assumption | exact upd_same) rfl ?_)
  | ((with_reducible show rIsi _ _ _ _); first | refine rd_isi (b := true) (.ty _) (.base (by first | exact .int _ | exact .str _ | exact .bl _ | exact .non | exact .tup (by assumption) | exact .lst (by assumption))) (kit_ty (by decide +kernel)) ?_ | refine rd_isi (b := false) (.ty _) (.base (by first | exact .int _ | exact .str _ | exact .bl _ | exact .non | exact .tup (by assumption) | exact .lst (by assumption))) (kit_ty (by decide +kernel)) ?_)
  | with_reducible refine rd_fld ?_
  | with_reducible refine rd_sfld ?_
  | with_reducible refine rd_meth ?_
  | with_reducible refine rd_make ?_
  | with_reducible refine rd_makeK ?_
  | with_reducible refine rd_U ?_
  | with_reducible refine rd_makeKS ?_
  | with_reducible refine rd_callN ?_
  | with_reducible refine rd_rs ?_
  | with_reducible refine rd_rf ?_
  | with_reducible refine rd_star ?_
  | with_reducible refine rd_callS ?_
  | with_reducible refine rd_for ?_
  | with_reducible refine rd_lc ?_
  | with_reducible refine rd_ilist ?_
  | with_reducible refine rd_itup ?_
  | with_reducible refine rd_irng ?_
  | with_reducible refine rd_izipS ?_
  | with_reducible refine rd_ienum ?_
  | with_reducible refine rd_ienT ?_
  | with_reducible refine rd_next ?_
  | with_reducible refine rd_eq rfl ?_
  | with_reducible refine rd_ne rfl ?_
  | with_reducible refine iteT ?_
  | with_reducible refine iteF ?_
  | with_reducible refine rd_ifnT ?_
  | with_reducible refine rd_ifnF ?_
  | ((with_reducible show rI (fun _ j => (0 : Int) < j) _ _ _ _ _); refine rd_mod (by omega) ?_)
  | with_reducible refine rd_new rfl ?_
  | ((with_reducible show rIxL _ _ (V.int 0) _ _); refine rd_ixL0 (by first | assumption | exact upd_same) ?_)
  | ((with_reducible show rIxL _ _ _ _ _); refine rd_ixL (by first | assumption | exact upd_same) rfl ?_)
  | ((with_reducible show rSetL _ _ _ _ _); refine rd_setL (by first | assumption | exact upd_same) rfl ?_)
  | ((with_reducible show rI CMul _ _ _ _ _); refine rd_mul (by first | exact Or.inl ⟨by omega, by omega⟩ | exact Or.inr ⟨by omega, by omega⟩) ?_)
  | ((with_reducible show tyV _ "list" _ _ ∧ _); refine rd_tyL (by first | assumption | exact upd_same) ?_)
  | ((with_reducible show rIxT _ _ (V.int 0) _ _); refine rd_ixT0 (by first | assumption | exact upd_same) ?_)
  | ((with_reducible show rIxT _ _ _ _ _); refine rd_ixT (by first | assumption | exact upd_same) rfl ?_))
local macro_rules | `(tactic| walk_at "rdn1") => `(tactic| first
  | with_reducible refine rd_seq ?_
  | with_reducible refine rd_asg ?_
  | ((with_reducible show tVar _ _ _ _); refine rd_var rfl ?_)
  | with_reducible refine rd_c ?_
  | with_reducible refine rd_op ?_
  | with_reducible refine rd_I0 ?_
  | with_reducible refine rd_name ?_
  | with_reducible refine rd_ret ?_
  | with_reducible refine rd_ifs ?_
  | with_reducible refine rd_test ?_
  | with_reducible refine rd_tB ?_
  | with_reducible refine rd_bl ?_
  | with_reducible refine rd_drop ?_
  | with_reducible refine rd_nil ?_
  | with_reducible refine rd_cons ?_
  | with_reducible refine rd_call ?_
  | with_reducible refine rd_cb ?_
  | with_reducible refine rd_tup ?_
  | with_reducible refine rd_lst ?_
  | with_reducible refine rd_and ?_
  | with_reducible refine rd_or ?_
  | with_reducible refine rd_not ?_
  | with_reducible refine rd_notV ?_
  | with_reducible refine rd_chain ?_
  | with_reducible refine rd_un ?_
  | with_reducible refine rd_isN ?_
  | with_reducible refine rd_bm ?_
  | with_reducible refine rd_bm0 ?_
  | with_reducible refine rd_gsub ?_
  | with_reducible refine rd_sl ?_
  | with_reducible refine rd_gt ?_
  | with_reducible refine rd_yes ?_
  | with_reducible refine rd_gcons ?_
  | with_reducible refine rd_gnil ?_
  | with_reducible refine rd_part ?_
  | with_reducible refine rd_nopart ?_
  | ((with_reducible show gTup _ _ _ _ _ _ _); refine rd_gtup (by first | assumption | exact upd_same) rfl ?_)
  | ((with_reducible show gLst _ _ _ _ _ _ _); refine rd_glst (by first | assumption | exact upd_same) rfl ?_)
  | ((with_reducible show rIsi _ _ _ _); first | refine rd_isi (b := true) (.ty _) (.base (by first | exact .int _ | exact .str _ | exact .bl _ | exact .non | exact .tup (by assumption) | exact .lst (by assumption))) (kit_ty (by decide +kernel)) ?_ | refine rd_isi (b := false) (.ty _) (.base (by first | exact .int _ | exact .str _ | exact .bl _ | exact .non | exact .tup (by assumption) | exact .lst (by assumption))) (kit_ty (by decide +kernel)) ?_)
  | with_reducible refine rd_fld ?_
  | with_reducible refine rd_sfld ?_
  | with_reducible refine rd_meth ?_
  | with_reducible refine rd_make ?_
  | with_reducible refine rd_makeK ?_
  | with_reducible refine rd_U ?_
  | with_reducible refine rd_makeKS ?_
  | with_reducible refine rd_callN ?_
  | with_reducible refine rd_rs ?_
  | with_reducible refine rd_rf ?_
  | with_reducible refine rd_star ?_
  | with_reducible refine rd_callS ?_
  | with_reducible refine rd_for ?_
  | with_reducible refine rd_lc ?_
  | with_reducible refine rd_ilist ?_
  | with_reducible refine rd_itup ?_
  | with_reducible refine rd_irng ?_
  | with_reducible refine rd_izipS ?_
  | with_reducible refine rd_ienum ?_
  | with_reducible refine rd_ienT ?_
  | with_reducible refine rd_next ?_
  | with_reducible refine rd_eq rfl ?_
  | with_reducible refine rd_ne rfl ?_
  | with_reducible refine iteT ?_
  | with_reducible refine iteF ?_
  | with_reducible refine rd_ifnT ?_
  | with_reducible refine rd_ifnF ?_
  | ((with_reducible show rI (fun _ j => (0 : Int) < j) _ _ _ _ _); refine rd_mod (by omega) ?_)
  | with_reducible refine rd_new rfl ?_
  | ((with_reducible show rIxL _ _ (V.int 0) _ _); refine rd_ixL0 (by first | assumption | exact upd_same) ?_)
  | ((with_reducible show rIxL _ _ _ _ _); refine rd_ixL (by first | assumption | exact upd_same) rfl ?_)
  | ((with_reducible show rSetL _ _ _ _ _); refine rd_setL (by first | assumption | exact upd_same) rfl ?_)
  | ((with_reducible show rI CMul _ _ _ _ _); refine rd_mul (by first | exact Or.inl ⟨by omega, by omega⟩ | exact Or.inr ⟨by omega, by omega⟩) ?_)
  | ((with_reducible show tyV _ "list" _ _ ∧ _); refine rd_tyL (by first | assumption | exact upd_same) ?_)
  | ((with_reducible show rIxT _ _ (V.int 0) _ _); refine rd_ixT0 (by first | assumption | exact upd_same) ?_)
  | ((with_reducible show rIxT _ _ _ _ _); refine rd_ixT (by first | assumption | exact upd_same) rfl ?_))
local macro_rules | `(tactic| walk_at "rd") => `(tactic| (repeat (first | walk_at "rd1" | dsimp only)))
local macro_rules | `(tactic| walk_at "rds") => `(tactic| (dsimp only [cxOf, Cx.nox, Cx.wish, Cx.blk, L2.start]; walk_at "rd"))
local macro_rules | `(tactic| walk_at "rdn") => `(tactic| (repeat (first | walk_at "rdn1" | dsimp only)))
section
variable {P : Program} {w : World} {K : PySem.W.Frag} {mg : Str → Option Value} {base : Heap}

theorem Tray.kfreeY {t g D : Addr} {H H' : Hp} {n : Nat} (T : Tray H' t g n) (k : Kp t g H H') (hD : H' D = none) : H D = none := by
  cases e : H D with
  | none => rfl
  | some o =>
    have h1 := T.net hD
    have h2 := T.neg hD
    rw [k D o e h1 h2] at hD
    cases hD
theorem mulOk9 {n : Int} (h0 : 0 ≤ n) (h1 : n ≤ 100) : MulOk "9" n := by
  have e : ("9" : Str).length = 1 := by decide +kernel
  unfold MulOk
  rw [e]
  refine ⟨?_, fun h2 _ h3 => ?_, fun h2 _ => ?_⟩
  · rw [Bool.or_eq_false_iff]
    exact ⟨decide_eq_false (by omega), decide_eq_false (by omega)⟩
  · have h4 : (2 ^ 63 - 1 : Int) / 100 ≤ (2 ^ 63 - 1) / n := by
      refine Int.le_ediv_of_mul_le (by omega) ?_
      have : (2 ^ 63 - 1 : Int) / 100 * n ≤ (2 ^ 63 - 1) / 100 * 100 := Int.mul_le_mul_of_nonneg_left h1 (by decide)
      exact Int.le_trans this (by decide)
    have h5 : (1 : Int) < (2 ^ 63 - 1) / 100 := by decide
    omega
  · unfold Builtin.Str.tooLong
    rw [sizeLine_eq]
    exact decide_eq_false (by omega)
theorem seqIxD {z : Int} {n : Nat} (h0 : 0 ≤ z) (h1 : z < (n : Int)) : seqIndex? z n = some z.toNat := by
  unfold seqIndex?
  simp [show ¬ z < 0 by omega, h0, h1]
theorem map_erase {α β : Type} (f : α → β) : ∀ (xs : List α) (k : Nat), (xs.map f).eraseIdx k = (xs.eraseIdx k).map f
  | [], k => by simp
  | x :: xs, 0 => by simp
  | x :: xs, k + 1 => by
    rw [List.map_cons, List.eraseIdx_cons_succ, List.eraseIdx_cons_succ, List.map_cons, map_erase f xs k]
theorem sum_erase : ∀ (xs : List Str) (k : Nat), ((xs.eraseIdx k).map (·.length)).sum ≤ (xs.map (·.length)).sum
  | [], k => by simp
  | x :: xs, 0 => by simp
  | x :: xs, k + 1 => by
    have := sum_erase xs k
    rw [List.eraseIdx_cons_succ, List.map_cons, List.sum_cons, List.map_cons, List.sum_cons]
    omega
theorem sum_set (x : Str) : ∀ (xs : List Str) (k : Nat), ((xs.set k x).map (·.length)).sum ≤ (xs.map (·.length)).sum + x.length
  | [], k => by simp
  | y :: xs, 0 => by
    rw [List.set_cons_zero, List.map_cons, List.sum_cons, List.map_cons, List.sum_cons]
    omega
  | y :: xs, k + 1 => by
    have := sum_set x xs k
    rw [List.set_cons_succ, List.map_cons, List.sum_cons, List.map_cons, List.sum_cons]
    omega
theorem spl_sum (S : List Nat) : ∀ (l : List Nat) (k : Nat) (acc : List Nat), ((TL.spl S k acc l).map List.length).sum ≤ acc.length + l.length
  | [], k, acc => by
    rw [TL.spl_nil]
    simp
  | c :: r, 0, acc => by
    cases hp : TL.pre S (c :: r) with
    | true =>
      rw [TL.spl_hit hp, List.map_cons, List.sum_cons]
      have := spl_sum S r (S.length - 1) []
      simp at this ⊢
      omega
    | false =>
      rw [TL.spl_miss hp]
      have := spl_sum S r 0 (acc ++ [c])
      simp at this ⊢
      omega
  | c :: r, k + 1, acc => by
    have := spl_sum S r k acc
    rw [List.length_cons]
    show ((TL.spl S k acc r).map List.length).sum ≤ _
    omega
theorem split_sum {x y : Str} (hy : TL.tl y ≠ []) (hk : y.cps.all (· < 256) = true) : ((Txt.split x y).map (·.length)).sum ≤ x.length := by
  have e := TL.split_spl x y hy (TL.kind_ok hk)
  have := spl_sum (TL.tl y) (TL.tl x) 0 []
  rw [← e, List.map_map] at this
  have e2 : (Txt.split x y).map (List.length ∘ TL.tl) = (Txt.split x y).map (·.length) := List.map_congr_left fun z _ => (TL.len_tl z).symm
  rw [e2] at this
  rw [TL.len_tl x]
  simpa using this
/-- parts put together again -/
theorem join_t7 {y : Str} {ps : List Str} {n k : Nat} (hy : T7 y 2) (h : ∀ p ∈ ps, T7 p n) (hs : (ps.map (·.length)).sum + ps.length * 2 ≤ k) : (ps.map (·.length)).sum + ps.length * y.length ≤ k ∧ T7 (Txt.join y ps) k := by
  have h1 : ps.length * y.length ≤ ps.length * 2 := Nat.mul_le_mul_left _ hy.2
  refine ⟨by omega, hy.join h, Nat.le_trans (join_len y ps) (by omega)⟩
def L_1 : List V := [.str "0", .str "4", .str "8", .str "-1", .str "-0", .str "01", .str "+1", .str (Txt.mul "9" 60), .str (Txt.mul "9" 61), .str ("-" ++ Txt.mul "9" 60), .str "", .str "-"]
def L_2 : List V := [.str "set", .str "sets", .str "Set", .str "go"]
def L_3 : List V := [.str "return", .str "call 0", .str "load 0 0", .str "fetch 0 0", .str "aim 0 9 0", .str "return 0", .str "zero"]
def L_4 : List V := [.str "none", .str ",", .str "1_0"]
theorem L_t7 : ∀ v ∈ L_1 ++ L_2 ++ L_3 ++ L_4, ∃ z : Str, v = .str z ∧ T7 z 61 := by
  intro v hv
  simp only [L_1, L_2, L_3, L_4, List.cons_append, List.nil_append, List.mem_cons, List.not_mem_nil, or_false] at hv
  rcases hv with rfl | rfl | rfl | rfl | rfl | rfl | rfl | rfl | rfl | rfl | rfl | rfl | rfl | rfl | rfl | rfl | rfl | rfl | rfl | rfl | rfl | rfl | rfl | rfl | rfl | rfl <;> exact ⟨_, rfl, t7_of (by decide +kernel)⟩
def spSpoilt : Sp := fun vs H Q _ => ∃ (t g : Addr) (n : Nat) (z : Str) (m : Nat), vs = [.ref t, .str z] ∧ Tray H t g n ∧ n ≤ 700000 ∧ T7 z m ∧ m ≤ 24000 ∧ ∀ (z' : Str) (H' : Hp), T7 z' (4 * m + 100) → Tray H' t g (n + 10) → Kp t g H H' → Q (.str z') H'
theorem amid_ok {i : Int} (h0 : 0 ≤ i) (h1 : i < 3) : ∃ y : Str, atI [V.str ", ", V.str " ", V.str " "] i = some (.str y) ∧ T7 y 2 ∧ TL.tl y ≠ [] ∧ y.cps.all (· < 256) = true ∧ (y.length == 0) = false := by
  have : i = 0 ∨ i = 1 ∨ i = 2 := by omega
  rcases this with rfl | rfl | rfl
  · exact ⟨", ", rfl, t7_of (by decide +kernel), by decide +kernel, by decide +kernel, by decide +kernel⟩
  · exact ⟨" ", rfl, t7_of (by decide +kernel), by decide +kernel, by decide +kernel, by decide +kernel⟩
  · exact ⟨" ", rfl, t7_of (by decide +kernel), by decide +kernel, by decide +kernel, by decide +kernel⟩
theorem ok_spoilt {f : Addr} {fd : FuncData} (B : BT mg) (F : Fun K "_law_spoilt" "_law_spoilt" s_law_spoilt f fd) (hm : mg "_law_spoilt" = some (.ref f)) (C_law_draw : Cal P w K mg base "_law_draw" 1 ["tray", "many"] spDraw) (C_law_sign_spoilt : Cal P w K mg base "_law_sign_spoilt" 3 ["tray", "text"] spSignSpoilt) : Cal P w K mg base "_law_spoilt" 4 ["tray", "text"] spSpoilt := by
  refine ⟨f, fd, hm, F.kp, F.binds (ps := ["tray", "text"]) fun _ _ _ _ _ _ us hl => match us, hl with | [_, _], _ => rfl, ?_⟩
  refine F.ok sc_law_spoilt (fun vs H Q E h => ?_) (fun cdv A outer s H vs Q E hr h => ?_)
  · obtain ⟨t, g, n, z, m, rfl, _⟩ := h
    rfl
  · obtain ⟨t, g, n, z, m, rfl, T, hn, h7, hm5, k⟩ := h
    refine ⟨_, (pss_cons (ps_if (pt_cmpR op_eq (pe_cal C_law_draw (hr.mono (by omega)) rfl (pa_cons (pv 0) (pa_cons pe_int pa_nil))) pe_int (nomark _)) (pss_one (ps_ret (pe_cal C_law_sign_spoilt (hr.mono (by omega)) rfl (pa_cons (pv 0) (pa_cons (pv 1) pa_nil))))) pss_nil)
 (pss_cons (ps_set (i := 2) sc_law_spoilt.nd rfl (Or.inl rfl) (pe_ix (r := rIxL K) ix_list (pe_lst (pa_cons pe_str (pa_cons pe_str (pa_cons pe_str pa_nil)))) (pe_cal C_law_draw (hr.mono (by omega)) rfl (pa_cons (pv 0) (pa_cons pe_int pa_nil))) (fun _ _ => rfl)))
 (pss_cons (ps_set (i := 3) sc_law_spoilt.nd rfl (Or.inl rfl) (pe_split (pv 1) (pv 2)))
 (pss_cons (ps_set (i := 4) sc_law_spoilt.nd rfl (Or.inl rfl) (pe_cal C_law_draw (hr.mono (by omega)) rfl (pa_cons (pv 0) (pa_cons (pe_callB (cr_lenS (K := K)) rfl B.g_len PySem.boot_len (pa_cons (pv 3) pa_nil)) pa_nil))))
 (pss_cons (ps_set (i := 5) sc_law_spoilt.nd rfl (Or.inl rfl) (pe_cal C_law_draw (hr.mono (by omega)) rfl (pa_cons (pv 0) (pa_cons pe_int pa_nil))))
 (pss_cons (ps_if (pt_cmpR op_eq (pv 5) pe_int (nomark _)) (pss_one (ps_expr (pe_bm PySem.F.plainAttrs_list PySem.F.slot_list_pop PySem.F.type_list_pop mt_popAt (pv 3) (pa_cons (pv 4) pa_nil)))) (pss_one (ps_if (pt_cmpR op_eq (pv 5) pe_int (nomark _)) (pss_one (ps_expr (pe_bm PySem.F.plainAttrs_list PySem.F.slot_list_insert PySem.F.type_list_insert mt_insert (pv 3) (pa_cons (pv 4) (pa_cons (pe_ix (r := rIxL K) ix_list (pv 3) (pv 4) (fun _ _ => rfl)) pa_nil))))) (pss_cons (ps_set (i := 6) sc_law_spoilt.nd rfl (Or.inl rfl) (pe_lst (pa_cons pe_str (pa_cons pe_str (pa_cons pe_str (pa_cons pe_str (pa_cons pe_str (pa_cons pe_str (pa_cons pe_str (pa_cons (pe_op op_smul pe_str pe_int) (pa_cons (pe_op op_smul pe_str pe_int) (pa_cons (pe_op op_add_str pe_str (pe_op op_smul pe_str pe_int)) (pa_cons pe_str (pa_cons pe_str pa_nil))))))))))))))
 (pss_cons (ps_set (i := 6) sc_law_spoilt.nd rfl (Or.inl rfl) (pe_op op_cat (pv 6) (pe_lst (pa_cons pe_str (pa_cons pe_str (pa_cons pe_str (pa_cons pe_str pa_nil)))))))
 (pss_cons (ps_set (i := 6) sc_law_spoilt.nd rfl (Or.inl rfl) (pe_op op_cat (pv 6) (pe_lst (pa_cons pe_str (pa_cons pe_str (pa_cons pe_str (pa_cons pe_str (pa_cons pe_str (pa_cons pe_str (pa_cons pe_str pa_nil))))))))))
 (pss_cons (ps_set (i := 6) sc_law_spoilt.nd rfl (Or.inl rfl) (pe_op op_cat (pv 6) (pe_lst (pa_cons pe_str (pa_cons pe_str (pa_cons pe_str pa_nil))))))
 (pss_one (ps_asg (pe_ix (r := rIxL K) ix_list (pv 6) (pe_cal C_law_draw (hr.mono (by omega)) rfl (pa_cons (pv 0) (pa_cons pe_int pa_nil))) (fun _ _ => rfl)) (pg_sub (pv 3) (pv 4) set_list))))))))))
 (pss_one (ps_ret (pe_joinK (K := K) (pv 2) (pv 3)))))))))), ?_⟩
    have hz := h7.line (by omega)
    have hzm := h7.2
    walk_at "rds"
    refine use_draw T (by omega) (by decide) (by decide) fun r1 H1 a1 b1 T1 k1 => ?_
    walk_at "rd"
    refine rd_ifI (fun h1 => ?_) (fun h1 => ?_)
    · walk_at "rd"
      exact ⟨t, g, n + 1, z, m, rfl, T1, by omega, h7, by omega, fun z' H2 hz' T2 k2 => k z' H2 (hz'.mono (by omega)) (T2.mono (by omega)) (k1.trans k2)⟩
    walk_at "rd"
    intro p hp
    walk_at "rd"
    refine use_draw (T1.new hp) (by omega) (by decide) (by decide) fun r2 H2 a2 b2 T2 k2 => ?_
    walk_at "rd"
    obtain ⟨y, ey, hy7, hyt, hya, hyl⟩ := amid_ok a2 b2
    refine rd_ixL (k2 _ _ upd_same (T1.net hp) (T1.neg hp)) ey ?_
    walk_at "rd"
    refine rd_m1 ?_
    walk_at "rd"
    refine ⟨⟨_, rfl⟩, ?_⟩
    walk_at "rd"
    refine ⟨z, y, rfl, rfl, hyl, by rw [sizeLine_eq]; omega, fun p3 hp3 => ?_⟩
    have hp3H : H p3 = none := T2.kfreeY ((k1.trans (Kp.new (o := .lst [.str ", ", .str " ", .str " "]) hp)).trans k2) hp3
    have T3 := T2.new (o := .lst ((Txt.split z y).map V.str)) hp3
    have k3 := (k1.trans (Kp.new (o := .lst [V.str ", ", V.str " ", V.str " "]) hp)).trans (k2.trans (Kp.new (o := .lst ((Txt.split z y).map V.str)) hp3))
    have hpt := h7.part hyt hya
    have hne := split_ne (z := z) hyt hya
    have hct := split_cnt z y
    have hsum := split_sum (x := z) hyt hya
    have e3 : upd H2 p3 (.lst ((Txt.split z y).map V.str)) p3 = some (.lst ((Txt.split z y).map V.str)) := upd_same
    generalize upd H2 p3 (.lst ((Txt.split z y).map V.str)) = H3 at T3 k3 e3
    generalize Txt.split z y = ps at hpt hne hct hsum e3
    have nt : p3 ≠ t := T2.net hp3
    have ng : p3 ≠ g := T2.neg hp3
    walk_at "rd"
    refine ⟨p3, _, rfl, .inl (SqL.of e3), ?_⟩
    walk_at "rd"
    have hpos : 0 < ps.length := List.length_pos_iff.mpr hne
    refine use_draw (m := ((ps.map V.str).length : Int)) T3 (by omega) (by rw [List.length_map]; omega) (by rw [List.length_map]; have := big60; omega) fun r4 H4 a4 b4 T4 k4 => ?_
    rw [List.length_map] at b4
    have e4 := k4 _ _ e3 nt ng
    walk_at "rd"
    refine use_draw T4 (by omega) (by decide) (by decide) fun r5 H5 a5 b5 T5 k5 => ?_
    have e5 := k5 _ _ e4 nt ng
    obtain ⟨j, c, rfl, ej, eat⟩ := at_in (xs := ps) a4 b4
    have hjl : j < ps.length := (List.getElem?_eq_some_iff.mp ej).1
    have eV : (ps.map V.str)[j]? = some (.str c) := by rw [List.getElem?_map, ej]; rfl
    have hc7 := hpt c (List.mem_of_getElem? ej)
    walk_at "rd"
    have K5 := (k3.trans k4).trans k5
    -- what follows the change
    have fin : ∀ (qs : List Str) (H6 : Hp), H6 p3 = some (.lst (qs.map V.str)) → (∀ q ∈ qs, T7 q (m + 61)) → (qs.map (·.length)).sum + qs.length * 2 ≤ 4 * m + 100 → Tray H6 t g (n + 6) → Kp t g H H6 → rJoin K (.str y) [.ref p3] H6 Q := fun qs H6 e6 h6 hs T6 k6 => by
      obtain ⟨q1, q2⟩ := join_t7 hy7 h6 hs
      exact rd_sjoin e6 (by omega) (k _ _ q2 (T6.mono (by omega)) k6)
    have e5' : SqL K H5 p3 (ps.map V.str) := SqL.of e5
    refine rd_ifI (fun h => ?_) (fun h => ?_)
    · walk_at "rd"
      refine ⟨p3, _, (j : Int), j, _, rfl, rfl, e5, by omega, by omega, (seqIxD (by omega) (by rw [List.length_map]; omega)).trans (by rw [Int.toNat_natCast]), eV, ?_⟩
      walk_at "rd"
      refine rd_m1 ?_
      walk_at "rd"
      refine ⟨⟨_, rfl⟩, ?_⟩
      walk_at "rd"
      refine fin (ps.eraseIdx j) _ (by rw [upd_same, map_erase]) (fun q hq => (hpt q (List.mem_of_mem_eraseIdx hq)).mono (by omega)) ?_ ((T5.put nt ng).mono (by omega)) (K5.put hp3H)
      have h1 := sum_erase ps j
      have h2 : (ps.eraseIdx j).length ≤ ps.length := List.length_eraseIdx_le _ _
      omega
    walk_at "rd"
    refine rd_ifI (fun h => ?_) (fun h => ?_)
    · walk_at "rd"
      refine rd_ixL e5 (atI_nat eV) ?_
      walk_at "rd"
      refine ⟨p3, _, (j : Int), _, rfl, rfl, e5, by rw [List.length_map, sizeLine_eq]; omega, by omega, by omega, ?_⟩
      rw [Int.toNat_natCast]
      walk_at "rd"
      refine rd_m1 ?_
      walk_at "rd"
      refine ⟨⟨_, rfl⟩, ?_⟩
      walk_at "rd"
      refine fin (ps.take j ++ [c] ++ ps.drop j) _ (by rw [upd_same, List.map_append, List.map_append, List.map_take, List.map_drop]; rfl) (fun q hq => ?_) ?_ ((T5.put nt ng).mono (by omega)) (K5.put hp3H)
      · rcases List.mem_append.mp hq with hq | hq
        · rcases List.mem_append.mp hq with hq | hq
          · exact (hpt q (List.mem_of_mem_take hq)).mono (by omega)
          · rw [List.mem_singleton.mp hq]
            exact hc7.mono (by omega)
        · exact (hpt q (List.mem_of_mem_drop hq)).mono (by omega)
      · have h1 : ((ps.take j).map (·.length)).sum + ((ps.drop j).map (·.length)).sum = (ps.map (·.length)).sum := by
          rw [← List.sum_append, ← List.map_append, List.take_append_drop]
        have h2 := hc7.2
        have h3 : (ps.take j ++ [c] ++ ps.drop j).length = ps.length + 1 := by
          rw [List.length_append, List.length_append, List.length_take, List.length_drop]
          simp
          omega
        rw [h3, List.map_append, List.map_append, List.sum_append, List.sum_append]
        simp at h1 h2 hsum ⊢
        omega
    walk_at "rd"
    refine ⟨"9", 60, rfl, rfl, mulOk9 (by omega) (by omega), ?_⟩
    walk_at "rd"
    refine ⟨"9", 61, rfl, rfl, mulOk9 (by omega) (by omega), ?_⟩
    walk_at "rd"
    refine ⟨"9", 60, rfl, rfl, mulOk9 (by omega) (by omega), ?_⟩
    walk_at "rd"
    refine ⟨_, _, rfl, rfl, by rw [sizeLine_eq]; decide +kernel, ?_⟩
    walk_at "rd"
    intro q1 hq1
    have s1 := same_upd (o := .lst [.str "0", .str "4", .str "8", .str "-1", .str "-0", .str "01", .str "+1", .str (Txt.mul "9" 60), .str (Txt.mul "9" 61), .str ("-" ++ Txt.mul "9" 60), .str "", .str "-"]) hq1
    walk_at "rd"
    intro q2 hq2
    have s2 := same_upd (o := .lst [.str "set", .str "sets", .str "Set", .str "go"]) hq2
    walk_at "rd"
    refine ⟨q1, q2, _, _, rfl, rfl, s2 _ _ upd_same, upd_same, by rw [sizeLine_eq]; decide, fun q3 hq3 => ?_⟩
    walk_at "rd"
    intro q4 hq4
    walk_at "rd"
    refine ⟨q3, q4, _, _, rfl, rfl, (same_upd hq4) _ _ upd_same, upd_same, by rw [sizeLine_eq]; decide, fun q5 hq5 => ?_⟩
    walk_at "rd"
    intro q6 hq6
    walk_at "rd"
    refine ⟨q5, q6, _, _, rfl, rfl, (same_upd hq6) _ _ upd_same, upd_same, by rw [sizeLine_eq]; decide, fun q7 hq7 => ?_⟩
    have sA := (((((s1.trans s2).trans (same_upd (o := .lst (L_1 ++ L_2)) hq3)).trans (same_upd (o := .lst L_3) hq4)).trans (same_upd (o := .lst (L_1 ++ L_2 ++ L_3)) hq5)).trans (same_upd (o := .lst L_4) hq6)).trans (same_upd (o := .lst (L_1 ++ L_2 ++ L_3 ++ L_4)) hq7)
    have e7 : upd (upd (upd (upd (upd (upd (upd H5 q1 (.lst L_1)) q2 (.lst L_2)) q3 (.lst (L_1 ++ L_2))) q4 (.lst L_3)) q5 (.lst (L_1 ++ L_2 ++ L_3))) q6 (.lst L_4)) q7 (.lst (L_1 ++ L_2 ++ L_3 ++ L_4)) q7 = some (.lst (L_1 ++ L_2 ++ L_3 ++ L_4)) := upd_same
    have n7t : q7 ≠ t := T5.net (((((s1.trans s2).trans (same_upd (o := .lst (L_1 ++ L_2)) hq3)).trans (same_upd (o := .lst L_3) hq4)).trans (same_upd (o := .lst (L_1 ++ L_2 ++ L_3)) hq5)).trans (same_upd (o := .lst L_4) hq6) |>.free hq7)
    have n7g : q7 ≠ g := T5.neg (((((s1.trans s2).trans (same_upd (o := .lst (L_1 ++ L_2)) hq3)).trans (same_upd (o := .lst L_3) hq4)).trans (same_upd (o := .lst (L_1 ++ L_2 ++ L_3)) hq5)).trans (same_upd (o := .lst L_4) hq6) |>.free hq7)
    walk_at "rd"
    refine use_draw (T5.same sA) (by omega) (by decide) (by decide) fun r6 H6 a6 b6 T6 k6 => ?_
    have e76 := k6 _ _ e7 n7t n7g
    obtain ⟨jj, v6, rfl, ej6, eat6⟩ := at_in (xs := L_1 ++ L_2 ++ L_3 ++ L_4) a6 b6
    obtain ⟨u6, rfl, h6⟩ := L_t7 v6 (List.mem_of_getElem? ej6)
    have e36 := k6 _ _ (sA _ _ e5) nt ng
    have K6 := (K5.trans (Kp.of sA)).trans k6
    refine rd_ixL e76 eat6 ?_
    walk_at "rd"
    refine ⟨p3, _, _, j, rfl, rfl, e36, ?_, ?_⟩
    · unfold ixN
      rw [List.length_map, if_pos (by omega), if_pos (by omega)]
      simp
    walk_at "rd"
    refine rd_m1 ?_
    walk_at "rd"
    refine ⟨⟨_, rfl⟩, ?_⟩
    walk_at "rd"
    refine fin (ps.set j u6) _ (by rw [upd_same, List.map_set]) (fun q hq => ?_) ?_ ((T6.put nt ng).mono (by omega)) (K6.put hp3H)
    · rcases List.mem_or_eq_of_mem_set hq with hq | hq
      · exact (hpt q hq).mono (by omega)
      · rw [hq]
        exact h6.mono (by omega)
    · have h1 := sum_set u6 ps j
      have h2 := h6.2
      rw [List.length_set]
      omega

end
end Rg

namespace Rg
open PySem PySem.Spec L2
local macro_rules | `(tactic| walk_at "rd1") => `(tactic| first
  | with_reducible refine rd_seq ?_
  | with_reducible refine rd_asg ?_
  | ((with_reducible show tVar _ _ _ _); refine rd_var rfl ?_)
  | with_reducible refine rd_c ?_
  | with_reducible refine rd_op ?_
  | with_reducible refine rd_I0 ?_
  | with_reducible refine rd_name ?_
  | with_reducible refine rd_ret ?_
  | with_reducible refine rd_ifs ?_
  | with_reducible refine rd_test ?_
  | with_reducible refine rd_tB ?_
  | with_reducible refine rd_bl ?_
  | with_reducible refine rd_drop ?_
  | with_reducible refine rd_nil ?_
  | with_reducible refine rd_cons ?_
  | with_reducible refine rd_call ?_
  | with_reducible refine rd_cb ?_
  | with_reducible refine rd_tup ?_
  | with_reducible refine rd_lst ?_
  | with_reducible refine rd_and ?_
  | with_reducible refine rd_or ?_
  | with_reducible refine rd_not ?_
  | with_reducible refine rd_andV ?_
  | with_reducible refine rd_orV ?_
  | with_reducible refine rd_notV ?_
  | with_reducible refine rd_chain ?_
  | with_reducible refine rd_un ?_
  | with_reducible refine rd_isN ?_
  | with_reducible refine rd_bm ?_
  | with_reducible refine rd_bm0 ?_
  | with_reducible refine rd_gsub ?_
  | with_reducible refine rd_sl ?_
  | with_reducible refine rd_gt ?_
  | with_reducible refine rd_yes ?_
  | with_reducible refine rd_gcons ?_
  | with_reducible refine rd_gnil ?_
  | with_reducible refine rd_part ?_
  | with_reducible refine rd_nopart ?_
  | ((with_reducible show gTup _ _ _ _ _ _ _); refine rd_gtup (by first | assumption | exact upd_same) rfl ?_)
  | ((with_reducible show gLst _ _ _ _ _ _ _); refine rd_glst (by first | assumption | exact upd_same) rfl ?_)
  | ((with_reducible show rIsi _ _ _ _); first | refine rd_isi (b := true) (.ty _) (.base (by first | exact .int _ | exact .str _ | exact .bl _ | exact .non | exact .tup (by assumption) | exact .lst (by assumption))) (kit_ty (by decide +kernel)) ?_ | refine rd_isi (b := false) (.ty _) (.base (by first | exact .int _ | exact .str _ | exact .bl _ | exact .non | exact .tup (by assumption) | exact .lst (by assumption))) (kit_ty (by decide +kernel)) ?_)
  | with_reducible refine rd_fld ?_
  | with_reducible refine rd_sfld ?_
  | with_reducible refine rd_meth ?_
  | with_reducible refine rd_make ?_
  | with_reducible refine rd_makeK ?_
  | with_reducible refine rd_U ?_
  | with_reducible refine rd_makeKS ?_
  | with_reducible refine rd_callN ?_
  | with_reducible refine rd_rs ?_
  | with_reducible refine rd_rf ?_
  | with_reducible refine rd_star ?_
  | with_reducible refine rd_callS ?_
  | with_reducible refine rd_for ?_
  | with_reducible refine rd_lc ?_
  | with_reducible refine rd_ilist ?_
  | with_reducible refine rd_itup ?_
  | with_reducible refine rd_irng ?_
  | with_reducible refine rd_izipS ?_
  | with_reducible refine rd_ienum ?_
  | with_reducible refine rd_ienT ?_
  | with_reducible refine rd_next ?_
  | with_reducible refine rd_eq rfl ?_
  | with_reducible refine rd_ne rfl ?_
  | with_reducible refine iteT ?_
  | with_reducible refine iteF ?_
  | with_reducible refine rd_ifnT ?_
  | with_reducible refine rd_ifnF ?_
  | ((with_reducible show rI (fun _ j => (0 : Int) < j) _ _ _ _ _); refine rd_mod (by omega) ?_)
  | with_reducible refine rd_new rfl ?_
  | ((with_reducible show rIxL _ _ (V.int 0) _ _); refine rd_ixL0 (by first | assumption | exact upd_same) ?_)
  | ((with_reducible show rIxL _ _ _ _ _); refine rd_ixL (by first | assumption | exact upd_same) rfl ?_)
  | ((with_reducible show rSetL _ _ _ _ _); refine rd_setL (by first | assumption | exact upd_same) rfl ?_)
  | ((with_reducible show rI CMul _ _ _ _ _); refine rd_mul (by first | exact Or.inl ⟨by omega, by omega⟩ | exact Or.inr ⟨by omega, by omega⟩) ?_)
  | ((with_reducible show tyV _ "list" _ _ ∧ _); refine rd_tyL (by first | assumption | exact upd_same) ?_)
  | ((with_reducible show rIxT _ _ (V.int 0) _ _); refine rd_ixT0 (by first | assumption | exact upd_same) ?_)
  | ((with_reducible show rIxT _ _ _ _ _); refine rd_ixT (by first | assumption | exact upd_same) rfl ?_))
local macro_rules | `(tactic| walk_at "rdn1") => `(tactic| first
  | with_reducible refine rd_seq ?_
  | with_reducible refine rd_asg ?_
  | ((with_reducible show tVar _ _ _ _); refine rd_var rfl ?_)
  | with_reducible refine rd_c ?_
  | with_reducible refine rd_op ?_
  | with_reducible refine rd_I0 ?_
  | with_reducible refine rd_name ?_
  | with_reducible refine rd_ret ?_
  | with_reducible refine rd_ifs ?_
  | with_reducible refine rd_test ?_
  | with_reducible refine rd_tB ?_
  | with_reducible refine rd_bl ?_
  | with_reducible refine rd_drop ?_
  | with_reducible refine rd_nil ?_
  | with_reducible refine rd_cons ?_
  | with_reducible refine rd_call ?_
  | with_reducible refine rd_cb ?_
  | with_reducible refine rd_tup ?_
  | with_reducible refine rd_lst ?_
  | with_reducible refine rd_and ?_
  | with_reducible refine rd_or ?_
  | with_reducible refine rd_not ?_
  | with_reducible refine rd_notV ?_
  | with_reducible refine rd_chain ?_
  | with_reducible refine rd_un ?_
  | with_reducible refine rd_isN ?_
  | with_reducible refine rd_bm ?_
  | with_reducible refine rd_bm0 ?_
  | with_reducible refine rd_gsub ?_
  | with_reducible refine rd_sl ?_
  | with_reducible refine rd_gt ?_
  | with_reducible refine rd_yes ?_
  | with_reducible refine rd_gcons ?_
  | with_reducible refine rd_gnil ?_
  | with_reducible refine rd_part ?_
  | with_reducible refine rd_nopart ?_
  | ((with_reducible show gTup _ _ _ _ _ _ _); refine rd_gtup (by first | assumption | exact upd_same) rfl ?_)
  | ((with_reducible show gLst _ _ _ _ _ _ _); refine rd_glst (by first | assumption | exact upd_same) rfl ?_)
  | ((with_reducible show rIsi _ _ _ _); first | refine rd_isi (b := true) (.ty _) (.base (by first | exact .int _ | exact .str _ | exact .bl _ | exact .non | exact .tup (by assumption) | exact .lst (by assumption))) (kit_ty (by decide +kernel)) ?_ | refine rd_isi (b := false) (.ty _) (.base (by first | exact .int _ | exact .str _ | exact .bl _ | exact .non | exact .tup (by assumption) | exact .lst (by assumption))) (kit_ty (by decide +kernel)) ?_)
  | with_reducible refine rd_fld ?_
  | with_reducible refine rd_sfld ?_
  | with_reducible refine rd_meth ?_
  | with_reducible refine rd_make ?_
  | with_reducible refine rd_makeK ?_
  | with_reducible refine rd_U ?_
  | with_reducible refine rd_makeKS ?_
  | with_reducible refine rd_callN ?_
  | with_reducible refine rd_rs ?_
  | with_reducible refine rd_rf ?_
  | with_reducible refine rd_star ?_
  | with_reducible refine rd_callS ?_
  | with_reducible refine rd_for ?_
  | with_reducible refine rd_lc ?_
  | with_reducible refine rd_ilist ?_
  | with_reducible refine rd_itup ?_
  | with_reducible refine rd_irng ?_
  | with_reducible refine rd_izipS ?_
  | with_reducible refine rd_ienum ?_
  | with_reducible refine rd_ienT ?_
  | with_reducible refine rd_next ?_
  | with_reducible refine rd_eq rfl ?_
  | with_reducible refine rd_ne rfl ?_
  | with_reducible refine iteT ?_
  | with_reducible refine iteF ?_
  | with_reducible refine rd_ifnT ?_
  | with_reducible refine rd_ifnF ?_
  | ((with_reducible show rI (fun _ j => (0 : Int) < j) _ _ _ _ _); refine rd_mod (by omega) ?_)
  | with_reducible refine rd_new rfl ?_
  | ((with_reducible show rIxL _ _ (V.int 0) _ _); refine rd_ixL0 (by first | assumption | exact upd_same) ?_)
  | ((with_reducible show rIxL _ _ _ _ _); refine rd_ixL (by first | assumption | exact upd_same) rfl ?_)
  | ((with_reducible show rSetL _ _ _ _ _); refine rd_setL (by first | assumption | exact upd_same) rfl ?_)
  | ((with_reducible show rI CMul _ _ _ _ _); refine rd_mul (by first | exact Or.inl ⟨by omega, by omega⟩ | exact Or.inr ⟨by omega, by omega⟩) ?_)
  | ((with_reducible show tyV _ "list" _ _ ∧ _); refine rd_tyL (by first | assumption | exact upd_same) ?_)
  | ((with_reducible show rIxT _ _ (V.int 0) _ _); refine rd_ixT0 (by first | assumption | exact upd_same) ?_)
  | ((with_reducible show rIxT _ _ _ _ _); refine rd_ixT (by first | assumption | exact upd_same) rfl ?_))
local macro_rules | `(tactic| walk_at "rd") => `(tactic| (repeat (first | walk_at "rd1" | dsimp only)))
local macro_rules | `(tactic| walk_at "rds") => `(tactic| (dsimp only [cxOf, Cx.nox, Cx.wish, Cx.blk, L2.start]; walk_at "rd"))
local macro_rules | `(tactic| walk_at "rdn") => `(tactic| (repeat (first | walk_at "rdn1" | dsimp only)))
section
variable {P : Program} {w : World} {K : PySem.W.Frag} {mg : Str → Option Value} {base : Heap}

theorem rb_of {w : Str} {ns : List Int} (h : ∀ x ∈ ns, NumB x) : RowB ⟨w, ns⟩ := h
/-- a row of any form, its numbers bounded -/
def spRowN : Sp := fun vs H Q _ => ∃ (t g : Addr) (n : Nat) (m : Int), vs = [.ref t, .int m] ∧ Tray H t g n ∧ n ≤ 700000 ∧ 0 < m ∧ m ≤ 8 ∧
  ∀ (v : V) (r : Rw) (H' : Hp), Rp H' v r.d → RwForm r → RowB r → rowFits r m = true → Tray H' t g (n + 10) → Kp t g H H' → Q v H'
theorem ok_rowN {f : Addr} {fd : FuncData} (B : BT mg) (F : Fun K "_law_row" "_law_row" s_law_row f fd) (hm : mg "_law_row" = some (.ref f)) (C_law_draw : Cal P w K mg base "_law_draw" 1 ["tray", "many"] spDraw) (C_law_number : Cal P w K mg base "_law_number" 3 ["tray"] spNumber) :
    Cal P w K mg base "_law_row" 4 ["tray", "many"] spRowN := by
  refine ⟨f, fd, hm, F.kp, F.binds (ps := ["tray", "many"]) fun _ _ _ _ _ _ us hl => match us, hl with | [_, _], _ => rfl, ?_⟩
  refine F.ok sc_law_row (fun vs H Q E h => ?_) (fun cdv A outer s H vs Q E hr h => ?_)
  · obtain ⟨t, g, n, m, rfl, _⟩ := h
    rfl
  · obtain ⟨t, g, n, m, rfl, T, hn, m0, m8, k⟩ := h
    refine ⟨_, (pss_cons (ps_set (i := 2) sc_law_row.nd rfl (Or.inl rfl) (pe_lst (pa_cons pe_str (pa_cons pe_str (pa_cons pe_str (pa_cons pe_str (pa_cons pe_str (pa_cons pe_str (pa_cons pe_str (pa_cons pe_str (pa_cons pe_str (pa_cons pe_str (pa_cons pe_str (pa_cons pe_str pa_nil))))))))))))))
 (pss_cons (ps_set (i := 3) sc_law_row.nd rfl (Or.inl rfl) (pe_ix (r := rIxL K) ix_list (pv 2) (pe_cal C_law_draw (hr.mono (by omega)) rfl (pa_cons (pv 0) (pa_cons pe_int pa_nil))) (fun _ _ => rfl)))
 (pss_cons (ps_set (i := 4) sc_law_row.nd rfl (Or.inl rfl) (pe_cal C_law_draw (hr.mono (by omega)) rfl (pa_cons (pv 0) (pa_cons pe_int pa_nil))))
 (pss_cons (ps_set (i := 5) sc_law_row.nd rfl (Or.inl rfl) (pe_cal C_law_draw (hr.mono (by omega)) rfl (pa_cons (pv 0) (pa_cons pe_int pa_nil))))
 (pss_cons (ps_set (i := 6) sc_law_row.nd rfl (Or.inl rfl) (pe_cal C_law_number (hr.mono (by omega)) rfl (pa_cons (pv 0) pa_nil)))
 (pss_cons (ps_if (pt_cmpR (r := rIn K false) op_in_seq (pv 3) (pe_lst (pa_cons pe_str (pa_cons pe_str (pa_cons pe_str (pa_cons pe_str pa_nil))))) (by rfl)) (pss_one (ps_ret (pe_tup (pa_cons (pv 3) (pa_cons (pv 6) pa_nil))))) pss_nil)
 (pss_cons (ps_if (pt_cmpR (r := rIn K false) op_in_seq (pv 3) (pe_lst (pa_cons pe_str (pa_cons pe_str pa_nil))) (by rfl)) (pss_one (ps_ret (pe_tup (pa_cons (pv 3) (pa_cons (pv 4) (pa_cons (pv 6) pa_nil)))))) pss_nil)
 (pss_cons (ps_if (pt_cmpR (r := rIn K false) op_in_seq (pv 3) (pe_lst (pa_cons pe_str (pa_cons pe_str (pa_cons pe_str pa_nil)))) (by rfl)) (pss_one (ps_ret (pe_tup (pa_cons (pv 3) (pa_cons (pv 5) (pa_cons (pv 4) (pa_cons (pv 6) pa_nil))))))) pss_nil)
 (pss_cons (ps_if (pt_cmpR op_eq (pv 3) pe_str (nomark _)) (pss_one (ps_ret (pe_tup (pa_cons (pv 3) (pa_cons (pv 5) (pa_cons (pe_cal C_law_draw (hr.mono (by omega)) rfl (pa_cons (pv 0) (pa_cons (pv 1) pa_nil))) (pa_cons (pv 6) pa_nil))))))) pss_nil)
 (pss_one (ps_ret (pe_ix (r := rIxL K) ix_list (pe_lst (pa_cons (pe_tup (pa_cons (pv 3) (pa_cons (pv 4) pa_nil))) (pa_cons (pe_tup (pa_cons (pv 3) pa_nil)) pa_nil))) (pe_callTy call_int1 rfl B.g_int (by decide +kernel) (pa_cons (pe_cmpR op_eq (pv 3) pe_str (nomark _)) pa_nil)) (fun _ _ => rfl))))))))))))), ?_⟩
    walk_at "rds"
    intro ps hps
    walk_at "rd"
    refine use_draw (T.new hps) (by omega) (by decide) (by decide) fun r1 H1 a1 b1 T1 k1 => ?_
    obtain ⟨w, hw, ew⟩ := at_str (l := opsL) a1 b1
    have hL : H1 ps = some (.lst (opsL.map V.str)) := k1 _ _ upd_same (T.net hps) (T.neg hps)
    refine rd_ixL hL ew ?_
    walk_at "rd"
    refine use_draw T1 (by omega) (by decide) (by decide) fun p H2 a2 b2 T2 k2 => ?_
    walk_at "rd"
    refine use_draw T2 (by omega) (by decide) (by decide) fun q H3 a3 b3 T3 k3 => ?_
    walk_at "rd"
    refine use_number T3 (by omega) fun z H4 a4 b4 T4 k4 => ?_
    have kk : Kp t g H H4 := (((Kp.new hps).trans k1).trans (k2.trans k3)).trans k4
    obtain ⟨fA, fB⟩ := ops_all w hw
    walk_at "rd"
    intro p5 h5
    have T5 := T4.new (o := .lst (opsA.map V.str)) h5
    have k5 : Kp t g H _ := kk.trans (Kp.new (o := .lst (opsA.map V.str)) h5)
    refine rd_in (xs := opsA.map V.str) upd_same rfl rfl ?_
    walk_at "rd"
    refine rd_ifb (fun hA => ?_) (fun hA => ?_)
    · walk_at "rd"
      intro p6 h6
      obtain ⟨o1, o2⟩ := row_ok (ns := [z]) (m := m) (fA hA) rfl rfl
      exact k _ ⟨w, [z]⟩ _ (.tup upd_same (.cons (.str _) (.cons (.int _) .nil))) o1 (rb_of (by intro x hx; simp only [List.mem_cons, List.not_mem_nil, or_false] at hx; unfold NumB; omega)) o2 ((T5.new h6).mono (by omega)) (k5.trans (Kp.new h6))
    · obtain ⟨fB1, fC⟩ := fB hA
      walk_at "rd"
      intro p6 h6
      have T6 := T5.new (o := .lst (opsB.map V.str)) h6
      have k6 : Kp t g H _ := k5.trans (Kp.new (o := .lst (opsB.map V.str)) h6)
      refine rd_in (xs := opsB.map V.str) upd_same rfl rfl ?_
      walk_at "rd"
      refine rd_ifb (fun hB => ?_) (fun hB => ?_)
      · walk_at "rd"
        intro p7 h7
        obtain ⟨o1, o2⟩ := row_ok (ns := [p, z]) (m := m) (fB1 hB) rfl (by show (below p 4 && (true && true)) = true; rw [below_of a2 b2]; rfl)
        exact k _ ⟨w, [p, z]⟩ _ (.tup upd_same (.cons (.str _) (.cons (.int _) (.cons (.int _) .nil)))) o1 (rb_of (by intro x hx; simp only [List.mem_cons, List.not_mem_nil, or_false] at hx; unfold NumB; omega)) o2 ((T6.new h7).mono (by omega)) (k6.trans (Kp.new h7))
      · obtain ⟨fC1, fD⟩ := fC hB
        walk_at "rd"
        intro p7 h7
        have T7 := T6.new (o := .lst (opsC.map V.str)) h7
        have k7 : Kp t g H _ := k6.trans (Kp.new (o := .lst (opsC.map V.str)) h7)
        refine rd_in (xs := opsC.map V.str) upd_same rfl rfl ?_
        walk_at "rd"
        refine rd_ifb (fun hC => ?_) (fun hC => ?_)
        · walk_at "rd"
          intro p8 h8
          obtain ⟨o1, o2⟩ := row_ok (ns := [q, p, z]) (m := m) (fC1 hC) rfl (by show (below q 4 && (below p 4 && (true && true))) = true; rw [below_of a2 b2, below_of a3 b3]; rfl)
          exact k _ ⟨w, [q, p, z]⟩ _ (.tup upd_same (.cons (.str _) (.cons (.int _) (.cons (.int _) (.cons (.int _) .nil))))) o1 (rb_of (by intro x hx; simp only [List.mem_cons, List.not_mem_nil, or_false] at hx; unfold NumB; omega)) o2 ((T7.new h8).mono (by omega)) (k7.trans (Kp.new h8))
        · obtain ⟨fD1, fE⟩ := fD hC
          walk_at "rd"
          refine rd_ifS (fun hD => ?_) (fun hD => ?_)
          · walk_at "rd"
            refine use_draw T7 (by omega) m0 (by omega) fun sg H8 a8 b8 T8 k8 => ?_
            walk_at "rd"
            intro p9 h9
            obtain ⟨o1, o2⟩ := row_ok (ns := [q, sg, z]) (m := m) (fD1 hD) rfl (by show (below q 4 && (below sg m && (true && true))) = true; rw [below_of a3 b3, below_of a8 b8]; rfl)
            exact k _ ⟨w, [q, sg, z]⟩ _ (.tup upd_same (.cons (.str _) (.cons (.int _) (.cons (.int _) (.cons (.int _) .nil))))) o1 (rb_of (by intro x hx; simp only [List.mem_cons, List.not_mem_nil, or_false] at hx; unfold NumB; omega)) o2 ((T8.new h9).mono (by omega)) ((k7.trans k8).trans (Kp.new h9))
          · obtain ⟨fE1, fE2⟩ := fE hD
            walk_at "rd"
            intro p8 h8
            walk_at "rd"
            intro p9 h9
            walk_at "rd"
            intro p10 h10
            walk_at "rd"
            refine .inr ⟨_, rfl, ?_⟩
            have T8 := ((T7.new (o := .tup [.str w, .int p]) h8).new (o := .tup [.str w]) h9).new (o := .lst [.ref p8, .ref p9]) h10
            have k8 : Kp t g H _ := ((k7.trans (Kp.new (o := .tup [.str w, .int p]) h8)).trans (Kp.new (o := .tup [.str w]) h9)).trans (Kp.new (o := .lst [.ref p8, .ref p9]) h10)
            by_cases hE : w = "return"
            · subst hE
              refine rd_ixL (i := if decide (V.str ("return" : Str) = V.str "return") = true then 1 else 0) (xs := [.ref p8, .ref p9]) (v := .ref p9) upd_same (by rw [decide_eq_true rfl]; rfl) ?_
              obtain ⟨o1, o2⟩ := row_ok (ns := []) (m := m) (fE1 rfl) rfl rfl
              exact k _ ⟨"return", []⟩ _ (.tup (by rw [upd_ne (ne_of_none upd_same h10), upd_same]) (.cons (.str _) .nil)) o1 (rb_of (by intro x hx; cases hx)) o2 (T8.mono (by omega)) k8
            · have hE' : ¬ V.str w = V.str "return" := fun e => hE (by injection e)
              refine rd_ixL (i := if decide (V.str w = V.str "return") = true then 1 else 0) (xs := [.ref p8, .ref p9]) (v := .ref p8) upd_same (by rw [decide_eq_false hE']; rfl) ?_
              obtain ⟨o1, o2⟩ := row_ok (ns := [p]) (m := m) (fE2 hE) rfl (by show (below p 4 && true) = true; rw [below_of a2 b2]; rfl)
              exact k _ ⟨w, [p]⟩ _ (.tup ((same_upd h10) _ _ ((same_upd h9) _ _ upd_same)) (.cons (.str _) (.cons (.int _) .nil))) o1 (rb_of (by intro x hx; simp only [List.mem_cons, List.not_mem_nil, or_false] at hx; unfold NumB; omega)) o2 (T8.mono (by omega)) k8

theorem use_rowN {t g : Addr} {n : Nat} {m : Int} {H : Hp} {Q : VK} {E : XK} (T : Tray H t g n) (hn : n ≤ 700000) (h0 : 0 < m) (h1 : m ≤ 8)
    (h : ∀ (v : V) (r : Rw) (H' : Hp), Rp H' v r.d → RwForm r → RowB r → rowFits r m = true → Tray H' t g (n + 10) → Kp t g H H' → Q v H') : spRowN [.ref t, .int m] H Q E := ⟨t, g, n, m, rfl, T, hn, h0, h1, h⟩
/-- a row with any numbers -/
def spFaulty : Sp := fun vs H Q _ => ∃ (t g : Addr) (n : Nat), vs = [.ref t] ∧ Tray H t g n ∧ n ≤ 600000 ∧
  ∀ (v : V) (r : Rw) (H' : Hp), Rp H' v r.d → RwForm r → RowB r → Tray H' t g (n + 50) → Kp t g H H' → Q v H'
theorem cut_01 {x : V} {xs : List V} : cutV (x :: xs) none (some 1) = [x] := by
  unfold cutV
  simp [HT.sIx]
theorem cut_1n {x : V} {xs : List V} : cutV (x :: xs) (some 1) none = xs := by
  unfold cutV
  simp [HT.sIx]
theorem div4 {r : Int} (h0 : 0 ≤ r) (h1 : r < 4) : 0 ≤ r / 3 ∧ r / 3 < 2 := by omega
def spRowShown : Sp := fun vs H Q _ => ∃ (v : V) (r : Rw), vs = [v] ∧ Rp H v r.d ∧ RwForm r ∧ RowB r ∧ ∀ H', Same H H' → Q (.str (rowT r)) H'
theorem ok_row_shown {f : Addr} {fd : FuncData} (B : BT mg) (F : Fun K "_law_row_shown" "_law_row_shown" s_law_row_shown f fd) (hm : mg "_law_row_shown" = some (.ref f)) : Cal P w K mg base "_law_row_shown" 1 ["row"] spRowShown := by
  refine ⟨f, fd, hm, F.kp, F.binds (ps := ["row"]) fun _ _ _ _ _ _ us hl => match us, hl with | [_], _ => rfl, ?_⟩
  refine F.ok sc_law_row_shown (fun vs H Q E h => ?_) (fun cdv A outer s H vs Q E hr h => ?_)
  · obtain ⟨v, r, rfl, _⟩ := h
    rfl
  · obtain ⟨v, r, rfl, rv, hf, hb, k⟩ := h
    refine ⟨_, (pss_one (ps_ret (pe_joinK (K := K) pe_str (pe_op op_cat (pe_lst (pa_cons (pe_ix (r := rIxT K) ix_tup (pv 0) pe_int (fun _ _ => rfl)) pa_nil)) (pe_lc (own := [("part", 1)]) (g := gName 1) (tt := tYes) rfl sc_law_row_shown.nd (pi_tupK (K := K) (pe_slice (r := rSlA K) sl_tupA (pv 0) (po_some pe_int) po_none)) (blkOk_by (own := [("part", 1)]) (N := ["row", "part"]) (sc := defScope s_law_row_shown) (by decide +kernel)) (fun _ _ _ _ _ => (pg_name (i := 1) sc_law_row_shown.nd rfl (by first | exact Or.inl rfl | exact Or.inr rfl))) (fun _ _ _ _ _ => pts_nil) (fun _ _ _ _ _ => (pe_callTy cr_strIS rfl B.g_str (by decide +kernel) (pa_cons (pv 1) pa_nil)))))))), ?_⟩
    obtain ⟨p, rfl, hp⟩ := rw_tup rv
    have lens := row_lens hf hb
    walk_at "rds"
    refine rd_m1 ?_
    walk_at "rd"
    refine ⟨⟨_, rfl⟩, ?_⟩
    walk_at "rd"
    intro p1 hp1
    have s1 := same_upd (o := .lst [.str r.op]) hp1
    walk_at "rd"
    refine ⟨1, rfl, ?_⟩
    walk_at "rd"
    refine rd_slA (s1 _ _ hp) fun q3 H3 s3 e3 => ?_
    rw [cut_1n] at e3
    have e13 := s3 _ _ (upd_same (H := H) (a := p1))
    walk_at "rd"
    refine ⟨q3, rfl, ⟨_, SqT.of e3⟩, fun D hD => ?_⟩
    refine lc_it (walk_tup (xs := r.ns.map V.int)) (CompL D H3 (r.ns.map numT) V.str) (CompL.start hD) (fun i H' _ p => SqT.of (p.2 _ _ e3)) ?_ ?_
    · rintro i y Ha Hb hi pc ⟨rfl, hy⟩
      rw [List.getElem?_map] at hy
      obtain ⟨z, hz, rfl⟩ := Option.map_eq_some_iff.mp hy
      have hi' : i < 3 := by
        have := lens.1
        simp at hi
        omega
      walk_at "rd"
      refine ⟨rfl, ?_⟩
      walk_at "rd"
      refine .inl ⟨z, rfl, numT_log (hb z (List.mem_of_getElem? hz)), ?_⟩
      exact pc.step hD (by omega) (b := numT z) (by rw [List.getElem?_map, hz]; rfl) (Same.refl _) rfl
    rintro Ha pc
    have he := pc.end (by simp)
    walk_at "rd"
    refine ⟨p1, D, [.str r.op], _, rfl, rfl, pc.2 _ _ e13, he, ?_, fun p5 hp5 => ?_⟩
    · have := lens.1
      rw [List.length_map, List.length_map]
      show 1 + _ ≤ sizeLine
      rw [sizeLine_eq]
      omega
    refine rd_sjoin (ys := r.op :: r.ns.map numT) upd_same (by have := lens.2; omega) ?_
    exact k _ (((s1.trans s3).trans pc.2).trans (same_upd hp5))

end
end Rg

namespace Rg
open PySem PySem.Spec L2
local macro_rules | `(tactic| walk_at "rd1") => `(tactic| first
  | with_reducible refine rd_seq ?_
  | with_reducible refine rd_asg ?_
  | ((with_reducible show tVar _ _ _ _); refine rd_var rfl ?_)
  | with_reducible refine rd_c ?_
  | with_reducible refine rd_op ?_
  | with_reducible refine rd_I0 ?_
  | with_reducible refine rd_name ?_
  | with_reducible refine rd_ret ?_
  | with_reducible refine rd_ifs ?_
  | with_reducible refine rd_test ?_
  | with_reducible refine rd_tB ?_
  | with_reducible refine rd_bl ?_
  | with_reducible refine rd_drop ?_
  | with_reducible refine rd_nil ?_
  | with_reducible refine rd_cons ?_
  | with_reducible refine rd_call ?_
  | with_reducible refine rd_cb ?_
  | with_reducible refine rd_tup ?_
  | with_reducible refine rd_lst ?_
  | with_reducible refine rd_and ?_
  | with_reducible refine rd_or ?_
  | with_reducible refine rd_not ?_
  | with_reducible refine rd_andV ?_
  | with_reducible refine rd_orV ?_
  | with_reducible refine rd_notV ?_
  | with_reducible refine rd_chain ?_
  | with_reducible refine rd_un ?_
  | with_reducible refine rd_isN ?_
  | with_reducible refine rd_bm ?_
  | with_reducible refine rd_bm0 ?_
  | with_reducible refine rd_gsub ?_
  | with_reducible refine rd_sl ?_
  | with_reducible refine rd_gt ?_
  | with_reducible refine rd_yes ?_
  | with_reducible refine rd_gcons ?_
  | with_reducible refine rd_gnil ?_
  | with_reducible refine rd_part ?_
  | with_reducible refine rd_nopart ?_
  | ((with_reducible show gTup _ _ _ _ _ _ _); refine rd_gtup (by first | assumption | exact upd_same) rfl ?_)
  | ((with_reducible show gLst _ _ _ _ _ _ _); refine rd_glst (by first | assumption | exact upd_same) rfl ?_)
  | ((with_reducible show rIsi _ _ _ _); first | refine rd_isi (b := true) (.ty _) (.base (by first | exact .int _ | exact .str _ | exact .bl _ | exact .non | exact .tup (by assumption) | exact .lst (by assumption))) (kit_ty (by decide +kernel)) ?_ | refine rd_isi (b := false) (.ty _) (.base (by first | exact .int _ | exact .str _ | exact .bl _ | exact .non | exact .tup (by assumption) | exact .lst (by assumption))) (kit_ty (by decide +kernel)) ?_)
  | with_reducible refine rd_fld ?_
  | with_reducible refine rd_sfld ?_
  | with_reducible refine rd_meth ?_
  | with_reducible refine rd_make ?_
  | with_reducible refine rd_makeK ?_
  | with_reducible refine rd_U ?_
  | with_reducible refine rd_makeKS ?_
  | with_reducible refine rd_callN ?_
  | with_reducible refine rd_rs ?_
  | with_reducible refine rd_rf ?_
  | with_reducible refine rd_star ?_
  | with_reducible refine rd_callS ?_
  | with_reducible refine rd_for ?_
  | with_reducible refine rd_lc ?_
  | with_reducible refine rd_ilist ?_
  | with_reducible refine rd_itup ?_
  | with_reducible refine rd_irng ?_
  | with_reducible refine rd_izipS ?_
  | with_reducible refine rd_ienum ?_
  | with_reducible refine rd_ienT ?_
  | with_reducible refine rd_next ?_
  | with_reducible refine rd_eq rfl ?_
  | with_reducible refine rd_ne rfl ?_
  | with_reducible refine iteT ?_
  | with_reducible refine iteF ?_
  | with_reducible refine rd_ifnT ?_
  | with_reducible refine rd_ifnF ?_
  | ((with_reducible show rI (fun _ j => (0 : Int) < j) _ _ _ _ _); refine rd_mod (by omega) ?_)
  | with_reducible refine rd_new rfl ?_
  | ((with_reducible show rIxL _ _ (V.int 0) _ _); refine rd_ixL0 (by first | assumption | exact upd_same) ?_)
  | ((with_reducible show rIxL _ _ _ _ _); refine rd_ixL (by first | assumption | exact upd_same) rfl ?_)
  | ((with_reducible show rSetL _ _ _ _ _); refine rd_setL (by first | assumption | exact upd_same) rfl ?_)
  | ((with_reducible show rI CMul _ _ _ _ _); refine rd_mul (by first | exact Or.inl ⟨by omega, by omega⟩ | exact Or.inr ⟨by omega, by omega⟩) ?_)
  | ((with_reducible show tyV _ "list" _ _ ∧ _); refine rd_tyL (by first | assumption | exact upd_same) ?_)
  | ((with_reducible show rIxT _ _ (V.int 0) _ _); refine rd_ixT0 (by first | assumption | exact upd_same) ?_)
  | ((with_reducible show rIxT _ _ _ _ _); refine rd_ixT (by first | assumption | exact upd_same) rfl ?_))
local macro_rules | `(tactic| walk_at "rdn1") => `(tactic| first
  | with_reducible refine rd_seq ?_
  | with_reducible refine rd_asg ?_
  | ((with_reducible show tVar _ _ _ _); refine rd_var rfl ?_)
  | with_reducible refine rd_c ?_
  | with_reducible refine rd_op ?_
  | with_reducible refine rd_I0 ?_
  | with_reducible refine rd_name ?_
  | with_reducible refine rd_ret ?_
  | with_reducible refine rd_ifs ?_
  | with_reducible refine rd_test ?_
  | with_reducible refine rd_tB ?_
  | with_reducible refine rd_bl ?_
  | with_reducible refine rd_drop ?_
  | with_reducible refine rd_nil ?_
  | with_reducible refine rd_cons ?_
  | with_reducible refine rd_call ?_
  | with_reducible refine rd_cb ?_
  | with_reducible refine rd_tup ?_
  | with_reducible refine rd_lst ?_
  | with_reducible refine rd_and ?_
  | with_reducible refine rd_or ?_
  | with_reducible refine rd_not ?_
  | with_reducible refine rd_notV ?_
  | with_reducible refine rd_chain ?_
  | with_reducible refine rd_un ?_
  | with_reducible refine rd_isN ?_
  | with_reducible refine rd_bm ?_
  | with_reducible refine rd_bm0 ?_
  | with_reducible refine rd_gsub ?_
  | with_reducible refine rd_sl ?_
  | with_reducible refine rd_gt ?_
  | with_reducible refine rd_yes ?_
  | with_reducible refine rd_gcons ?_
  | with_reducible refine rd_gnil ?_
  | with_reducible refine rd_part ?_
  | with_reducible refine rd_nopart ?_
  | ((with_reducible show gTup _ _ _ _ _ _ _); refine rd_gtup (by first | assumption | exact upd_same) rfl ?_)
  | ((with_reducible show gLst _ _ _ _ _ _ _); refine rd_glst (by first | assumption | exact upd_same) rfl ?_)
  | ((with_reducible show rIsi _ _ _ _); first | refine rd_isi (b := true) (.ty _) (.base (by first | exact .int _ | exact .str _ | exact .bl _ | exact .non | exact .tup (by assumption) | exact .lst (by assumption))) (kit_ty (by decide +kernel)) ?_ | refine rd_isi (b := false) (.ty _) (.base (by first | exact .int _ | exact .str _ | exact .bl _ | exact .non | exact .tup (by assumption) | exact .lst (by assumption))) (kit_ty (by decide +kernel)) ?_)
  | with_reducible refine rd_fld ?_
  | with_reducible refine rd_sfld ?_
  | with_reducible refine rd_meth ?_
  | with_reducible refine rd_make ?_
  | with_reducible refine rd_makeK ?_
  | with_reducible refine rd_U ?_
  | with_reducible refine rd_makeKS ?_
  | with_reducible refine rd_callN ?_
  | with_reducible refine rd_rs ?_
  | with_reducible refine rd_rf ?_
  | with_reducible refine rd_star ?_
  | with_reducible refine rd_callS ?_
  | with_reducible refine rd_for ?_
  | with_reducible refine rd_lc ?_
  | with_reducible refine rd_ilist ?_
  | with_reducible refine rd_itup ?_
  | with_reducible refine rd_irng ?_
  | with_reducible refine rd_izipS ?_
  | with_reducible refine rd_ienum ?_
  | with_reducible refine rd_ienT ?_
  | with_reducible refine rd_next ?_
  | with_reducible refine rd_eq rfl ?_
  | with_reducible refine rd_ne rfl ?_
  | with_reducible refine iteT ?_
  | with_reducible refine iteF ?_
  | with_reducible refine rd_ifnT ?_
  | with_reducible refine rd_ifnF ?_
  | ((with_reducible show rI (fun _ j => (0 : Int) < j) _ _ _ _ _); refine rd_mod (by omega) ?_)
  | with_reducible refine rd_new rfl ?_
  | ((with_reducible show rIxL _ _ (V.int 0) _ _); refine rd_ixL0 (by first | assumption | exact upd_same) ?_)
  | ((with_reducible show rIxL _ _ _ _ _); refine rd_ixL (by first | assumption | exact upd_same) rfl ?_)
  | ((with_reducible show rSetL _ _ _ _ _); refine rd_setL (by first | assumption | exact upd_same) rfl ?_)
  | ((with_reducible show rI CMul _ _ _ _ _); refine rd_mul (by first | exact Or.inl ⟨by omega, by omega⟩ | exact Or.inr ⟨by omega, by omega⟩) ?_)
  | ((with_reducible show tyV _ "list" _ _ ∧ _); refine rd_tyL (by first | assumption | exact upd_same) ?_)
  | ((with_reducible show rIxT _ _ (V.int 0) _ _); refine rd_ixT0 (by first | assumption | exact upd_same) ?_)
  | ((with_reducible show rIxT _ _ _ _ _); refine rd_ixT (by first | assumption | exact upd_same) rfl ?_))
local macro_rules | `(tactic| walk_at "rd") => `(tactic| (repeat (first | walk_at "rd1" | dsimp only)))
local macro_rules | `(tactic| walk_at "rds") => `(tactic| (dsimp only [cxOf, Cx.nox, Cx.wish, Cx.blk, L2.start]; walk_at "rd"))
local macro_rules | `(tactic| walk_at "rdn") => `(tactic| (repeat (first | walk_at "rdn1" | dsimp only)))
section
variable {P : Program} {w : World} {K : PySem.W.Frag} {mg : Str → Option Value} {base : Heap}

theorem ok_alike_s {f : Addr} {fd : FuncData} {j : Nat} (B : BT mg) (F : Fun K "_law_alike" "_law_alike" s_law_alike f fd) (hm : mg "_law_alike" = some (.ref f)) (C_law_alike : Cal P w K mg base "_law_alike" j ["found", "due"] (spAlike K j)) : Cal P w K mg base "_law_alike" (j + 1) ["found", "due"] (spAlike K (j + 1)) := by
  refine ⟨f, fd, hm, F.kp, F.binds (ps := ["found", "due"]) fun _ _ _ _ _ _ us hl => match us, hl with | [_, _], _ => rfl, ?_⟩
  refine F.ok sc_law_alike (fun vs H Q E h => ?_) (fun cdv A outer s H vs Q E hr h => ?_)
  · obtain ⟨x, y, d, rfl, _⟩ := h
    rfl
  · obtain ⟨x, y, d, rfl, hx, hy, hd, k⟩ := h
    refine ⟨_, (pss_cons (ps_if (pt_cmpR op_isN (pv 1) pe_non (nomark _)) (pss_one (ps_ret (pe_cmpR op_isN (pv 0) pe_non (nomark _)))) pss_nil)
 (pss_cons (ps_if (pt_val (pe_callB (r := rIsi K) call_isi rfl B.g_isinstance (by decide +kernel) (pa_cons (pv 1) (pa_cons (pe_bltn (v := .ty "bool") rfl B.g_bool (by decide +kernel) rfl) pa_nil)))) (pss_one (ps_ret (pe_and (pe_callB (r := rIsi K) call_isi rfl B.g_isinstance (by decide +kernel) (pa_cons (pv 0) (pa_cons (pe_bltn (v := .ty "bool") rfl B.g_bool (by decide +kernel) rfl) pa_nil))) (pe_one (pe_cmpR op_eq (pv 0) (pv 1) (nomark _)))))) pss_nil)
 (pss_cons (ps_if (pt_val (pe_callB (r := rIsi K) call_isi rfl B.g_isinstance (by decide +kernel) (pa_cons (pv 1) (pa_cons (pe_bltn (v := .ty "int") rfl B.g_int (by decide +kernel) rfl) pa_nil)))) (pss_one (ps_ret (pe_and (pe_callB (r := rIsi K) call_isi rfl B.g_isinstance (by decide +kernel) (pa_cons (pv 0) (pa_cons (pe_bltn (v := .ty "int") rfl B.g_int (by decide +kernel) rfl) pa_nil))) (pe_and (pe_not (pe_callB (r := rIsi K) call_isi rfl B.g_isinstance (by decide +kernel) (pa_cons (pv 0) (pa_cons (pe_bltn (v := .ty "bool") rfl B.g_bool (by decide +kernel) rfl) pa_nil)))) (pe_one (pe_cmpR op_eq (pv 0) (pv 1) (nomark _))))))) pss_nil)
 (pss_cons (ps_if (pt_val (pe_callB (r := rIsi K) call_isi rfl B.g_isinstance (by decide +kernel) (pa_cons (pv 1) (pa_cons (pe_bltn (v := .ty "str") rfl B.g_str (by decide +kernel) rfl) pa_nil)))) (pss_one (ps_ret (pe_and (pe_callB (r := rIsi K) call_isi rfl B.g_isinstance (by decide +kernel) (pa_cons (pv 0) (pa_cons (pe_bltn (v := .ty "str") rfl B.g_str (by decide +kernel) rfl) pa_nil))) (pe_one (pe_cmpR op_eq (pv 0) (pv 1) (nomark _)))))) pss_nil)
 (pss_cons (ps_if (PW.pt (pw_or (pt_cmpR op_ne (pe_callB (r := rIsi K) call_isi rfl B.g_isinstance (by decide +kernel) (pa_cons (pv 0) (pa_cons (pe_bltn (v := .ty "list") rfl B.g_list (by decide +kernel) rfl) pa_nil))) (pe_callB (r := rIsi K) call_isi rfl B.g_isinstance (by decide +kernel) (pa_cons (pv 1) (pa_cons (pe_bltn (v := .ty "list") rfl B.g_list (by decide +kernel) rfl) pa_nil))) (nomark _)) (pw_or1 (pt_cmpR op_ne (pe_callB (r := rIsi K) call_isi rfl B.g_isinstance (by decide +kernel) (pa_cons (pv 0) (pa_cons (pe_bltn (v := .ty "tuple") rfl B.g_tuple (by decide +kernel) rfl) pa_nil))) (pe_callB (r := rIsi K) call_isi rfl B.g_isinstance (by decide +kernel) (pa_cons (pv 1) (pa_cons (pe_bltn (v := .ty "tuple") rfl B.g_tuple (by decide +kernel) rfl) pa_nil))) (nomark _))))) (pss_one (ps_ret pe_bl)) pss_nil)
 (pss_cons (ps_if (pt_cmpR op_ne (pe_callB (cr_lenS (K := K)) rfl B.g_len PySem.boot_len (pa_cons (pv 0) pa_nil)) (pe_callB (cr_lenS (K := K)) rfl B.g_len PySem.boot_len (pa_cons (pv 1) pa_nil)) (nomark _)) (pss_one (ps_ret pe_bl)) pss_nil)
 (pss_cons (ps_for PassesOwn.never rfl (pi_range1 rfl B.g_range (pa_cons (pe_callB (cr_lenS (K := K)) rfl B.g_len PySem.boot_len (pa_cons (pv 1) pa_nil)) pa_nil)) (pg_name (i := 2) sc_law_alike.nd rfl (Or.inl rfl))
 (pss_one (ps_if (pt_not (pt_val (pe_cal C_law_alike (hr.mono (by omega)) rfl (pa_cons (pe_ix (r := rIx K) ix_seq (pv 0) (pv 2) (fun _ _ => rfl)) (pa_cons (pe_ix (r := rIx K) ix_seq (pv 1) (pv 2) (fun _ _ => rfl)) pa_nil))))) (pss_one (ps_ret pe_bl)) pss_nil)))
 (pss_one (ps_ret pe_bl))))))))), ?_⟩
    cases d with
    | none =>
      cases hx
      cases hy
      walk_at "rds"
      refine ⟨rfl, ?_⟩
      walk_at "rd"
      refine rd_ifT rfl ?_
      walk_at "rd"
      refine ⟨rfl, ?_⟩
      exact k
    | bool b =>
      cases hx
      cases hy
      walk_at "rds"
      refine ⟨rfl, ?_⟩
      walk_at "rd"
      refine rd_ifF (fun h => nomatch h) ?_
      walk_at "rd"
      rw [decide_eq_true rfl]
      exact k
    | int b =>
      cases hx
      cases hy
      walk_at "rds"
      refine ⟨rfl, ?_⟩
      walk_at "rd"
      refine rd_ifF (fun h => nomatch h) ?_
      walk_at "rd"
      rw [decide_eq_true rfl]
      exact k
    | str b =>
      cases hx
      cases hy
      walk_at "rds"
      refine ⟨rfl, ?_⟩
      walk_at "rd"
      refine rd_ifF (fun h => nomatch h) ?_
      walk_at "rd"
      rw [decide_eq_true rfl]
      exact k
    | dict b => exact hd.elim
    | list ds =>
      obtain ⟨a, xs, rfl, h1, h2⟩ := Dp.lst_inv hx
      obtain ⟨a', ys, rfl, h3, h4⟩ := Dp.lst_inv hy
      obtain ⟨hl, hds⟩ : ds.length ≤ 1000000 ∧ ∀ e ∈ ds, okN j e := hd
      have l1 := DpAll.length h2
      have l2 := DpAll.length h4
      walk_at "rds"
      refine ⟨rfl, ?_⟩
      walk_at "rd"
      refine rd_ifF (fun h => nomatch h) ?_
      walk_at "rd"
      refine rd_isi (b := false) (.ty _) (tyL h3) (kit_ty (by decide +kernel)) ?_
      walk_at "rd"
      refine rd_isi (b := false) (.ty _) (tyL h3) (kit_ty (by decide +kernel)) ?_
      walk_at "rd"
      refine rd_isi (b := false) (.ty _) (tyL h3) (kit_ty (by decide +kernel)) ?_
      walk_at "rd"
      refine rd_isi (b := true) (.ty _) (tyL h1) (kit_ty (by decide +kernel)) ?_
      walk_at "rd"
      refine rd_isi (b := true) (.ty _) (tyL h3) (kit_ty (by decide +kernel)) ?_
      walk_at "rd"
      refine rd_ifbF (by decide) ?_
      walk_at "rd"
      refine rd_isi (b := false) (.ty _) (tyL h1) (kit_ty (by decide +kernel)) ?_
      walk_at "rd"
      refine rd_isi (b := false) (.ty _) (tyL h3) (kit_ty (by decide +kernel)) ?_
      walk_at "rd"
      refine rd_ifbF (by decide) ?_
      walk_at "rd"
      refine ⟨a, xs, rfl, .inl h1, ?_⟩
      walk_at "rd"
      refine ⟨a', ys, rfl, .inl h3, ?_⟩
      walk_at "rd"
      refine rd_ifIn (fun _ => ?_) (fun h => absurd (by rw [l1, l2]) h)
      walk_at "rd"
      refine ⟨a', ys, rfl, .inl h3, ?_⟩
      walk_at "rd"
      refine ⟨_, rfl, by omega, by omega, ?_⟩
      refine for_inv (walk_range (n := (ys.length : Int).toNat)) (fun i σ' H' => (∃ c, σ' = [some (.ref a), some (.ref a'), c]) ∧ H' = H) ⟨⟨_, rfl⟩, rfl⟩ (fun _ _ _ _ _ => trivial) ?_ ?_
      · rintro B' i x σ1 H1 H2 hi ⟨⟨c, rfl⟩, rfl⟩ ⟨rfl, rfl⟩
        have hi' : i < ds.length := by omega
        obtain ⟨u, hu, du⟩ := DpAll.get2 h2 (List.getElem?_eq_getElem hi')
        obtain ⟨u', hu', du'⟩ := DpAll.get2 h4 (List.getElem?_eq_getElem hi')
        walk_at "rd"
        refine rd_ixLs h1 (at_of (by omega) hu) ?_
        walk_at "rd"
        refine rd_ixLs h3 (at_of (by omega) hu') ?_
        walk_at "rd"
        refine ⟨u, u', _, rfl, du, du', hds _ (List.getElem_mem hi'), ?_⟩
        walk_at "rd"
        exact ⟨⟨_, rfl⟩, rfl⟩
      · rintro σ1 H1 ⟨⟨c, rfl⟩, rfl⟩
        walk_at "rd"
        exact k
    | tuple ds =>
      obtain ⟨a, xs, rfl, h1, h2⟩ := Dp.tup_inv hx
      obtain ⟨a', ys, rfl, h3, h4⟩ := Dp.tup_inv hy
      obtain ⟨hl, hds⟩ : ds.length ≤ 1000000 ∧ ∀ e ∈ ds, okN j e := hd
      have l1 := DpAll.length h2
      have l2 := DpAll.length h4
      walk_at "rds"
      refine ⟨rfl, ?_⟩
      walk_at "rd"
      refine rd_ifF (fun h => nomatch h) ?_
      walk_at "rd"
      refine rd_isi (b := false) (.ty _) (tyT h3) (kit_ty (by decide +kernel)) ?_
      walk_at "rd"
      refine rd_isi (b := false) (.ty _) (tyT h3) (kit_ty (by decide +kernel)) ?_
      walk_at "rd"
      refine rd_isi (b := false) (.ty _) (tyT h3) (kit_ty (by decide +kernel)) ?_
      walk_at "rd"
      refine rd_isi (b := false) (.ty _) (tyT h1) (kit_ty (by decide +kernel)) ?_
      walk_at "rd"
      refine rd_isi (b := false) (.ty _) (tyT h3) (kit_ty (by decide +kernel)) ?_
      walk_at "rd"
      refine rd_ifbF (by decide) ?_
      walk_at "rd"
      refine rd_isi (b := true) (.ty _) (tyT h1) (kit_ty (by decide +kernel)) ?_
      walk_at "rd"
      refine rd_isi (b := true) (.ty _) (tyT h3) (kit_ty (by decide +kernel)) ?_
      walk_at "rd"
      refine rd_ifbF (by decide) ?_
      walk_at "rd"
      refine ⟨a, xs, rfl, .inr h1, ?_⟩
      walk_at "rd"
      refine ⟨a', ys, rfl, .inr h3, ?_⟩
      walk_at "rd"
      refine rd_ifIn (fun _ => ?_) (fun h => absurd (by rw [l1, l2]) h)
      walk_at "rd"
      refine ⟨a', ys, rfl, .inr h3, ?_⟩
      walk_at "rd"
      refine ⟨_, rfl, by omega, by omega, ?_⟩
      refine for_inv (walk_range (n := (ys.length : Int).toNat)) (fun i σ' H' => (∃ c, σ' = [some (.ref a), some (.ref a'), c]) ∧ H' = H) ⟨⟨_, rfl⟩, rfl⟩ (fun _ _ _ _ _ => trivial) ?_ ?_
      · rintro B' i x σ1 H1 H2 hi ⟨⟨c, rfl⟩, rfl⟩ ⟨rfl, rfl⟩
        have hi' : i < ds.length := by omega
        obtain ⟨u, hu, du⟩ := DpAll.get2 h2 (List.getElem?_eq_getElem hi')
        obtain ⟨u', hu', du'⟩ := DpAll.get2 h4 (List.getElem?_eq_getElem hi')
        walk_at "rd"
        refine rd_ixTs h1 (at_of (by omega) hu) ?_
        walk_at "rd"
        refine rd_ixTs h3 (at_of (by omega) hu') ?_
        walk_at "rd"
        refine ⟨u, u', _, rfl, du, du', hds _ (List.getElem_mem hi'), ?_⟩
        walk_at "rd"
        exact ⟨⟨_, rfl⟩, rfl⟩
      · rintro σ1 H1 ⟨⟨c, rfl⟩, rfl⟩
        walk_at "rd"
        exact k
theorem ok_alike {f : Addr} {fd : FuncData} (B : BT mg) (F : Fun K "_law_alike" "_law_alike" s_law_alike f fd) (hm : mg "_law_alike" = some (.ref f)) : ∀ j, Cal P w K mg base "_law_alike" j ["found", "due"] (spAlike K j)
  | 0 => ⟨f, fd, hm, F.kp, F.binds (ps := ["found", "due"]) fun _ _ _ _ _ _ us hl => match us, hl with | [_, _], _ => rfl, ⟨fun vs H Q E h => by obtain ⟨_, _, _, _, _, _, h, _⟩ := h; exact h.elim, fun _ _ _ _ _ _ vs Q E _ _ _ _ h => by obtain ⟨_, _, _, _, _, _, h, _⟩ := h; exact h.elim⟩⟩
  | j + 1 => ok_alike_s B F hm (ok_alike B F hm j)

end
end Rg

namespace Rg
open PySem PySem.Spec L2
local macro_rules | `(tactic| walk_at "rd1") => `(tactic| first
  | with_reducible refine rd_seq ?_
  | with_reducible refine rd_asg ?_
  | ((with_reducible show tVar _ _ _ _); refine rd_var rfl ?_)
  | with_reducible refine rd_c ?_
  | with_reducible refine rd_op ?_
  | with_reducible refine rd_I0 ?_
  | with_reducible refine rd_name ?_
  | with_reducible refine rd_ret ?_
  | with_reducible refine rd_ifs ?_
  | with_reducible refine rd_test ?_
  | with_reducible refine rd_tB ?_
  | with_reducible refine rd_bl ?_
  | with_reducible refine rd_drop ?_
  | with_reducible refine rd_nil ?_
  | with_reducible refine rd_cons ?_
  | with_reducible refine rd_call ?_
  | with_reducible refine rd_cb ?_
  | with_reducible refine rd_tup ?_
  | with_reducible refine rd_lst ?_
  | with_reducible refine rd_and ?_
  | with_reducible refine rd_or ?_
  | with_reducible refine rd_not ?_
  | with_reducible refine rd_andV ?_
  | with_reducible refine rd_orV ?_
  | with_reducible refine rd_notV ?_
  | with_reducible refine rd_chain ?_
  | with_reducible refine rd_un ?_
  | with_reducible refine rd_isN ?_
  | with_reducible refine rd_bm ?_
  | with_reducible refine rd_bm0 ?_
  | with_reducible refine rd_gsub ?_
  | with_reducible refine rd_sl ?_
  | with_reducible refine rd_gt ?_
  | with_reducible refine rd_yes ?_
  | with_reducible refine rd_gcons ?_
  | with_reducible refine rd_gnil ?_
  | with_reducible refine rd_part ?_
  | with_reducible refine rd_nopart ?_
  | ((with_reducible show gTup _ _ _ _ _ _ _); refine rd_gtup (by first | assumption | exact upd_same) rfl ?_)
  | ((with_reducible show gLst _ _ _ _ _ _ _); refine rd_glst (by first | assumption | exact upd_same) rfl ?_)
  | ((with_reducible show rIsi _ _ _ _); first | refine rd_isi (b := true) (.ty _) (.base (by first | exact .int _ | exact .str _ | exact .bl _ | exact .non | exact .tup (by assumption) | exact .lst (by assumption))) (kit_ty (by decide +kernel)) ?_ | refine rd_isi (b := false) (.ty _) (.base (by first | exact .int _ | exact .str _ | exact .bl _ | exact .non | exact .tup (by assumption) | exact .lst (by assumption))) (kit_ty (by decide +kernel)) ?_)
  | with_reducible refine rd_fld ?_
  | with_reducible refine rd_sfld ?_
  | with_reducible refine rd_meth ?_
  | with_reducible refine rd_make ?_
  | with_reducible refine rd_makeK ?_
  | with_reducible refine rd_U ?_
  | with_reducible refine rd_makeKS ?_
  | with_reducible refine rd_callN ?_
  | with_reducible refine rd_rs ?_
  | with_reducible refine rd_rf ?_
  | with_reducible refine rd_star ?_
  | with_reducible refine rd_callS ?_
  | with_reducible refine rd_for ?_
  | with_reducible refine rd_lc ?_
  | with_reducible refine rd_ilist ?_
  | with_reducible refine rd_itup ?_
  | with_reducible refine rd_irng ?_
  | with_reducible refine rd_izipS ?_
  | with_reducible refine rd_ienum ?_
  | with_reducible refine rd_ienT ?_
  | with_reducible refine rd_next ?_
  | with_reducible refine rd_eq rfl ?_
  | with_reducible refine rd_ne rfl ?_
  | with_reducible refine iteT ?_
  | with_reducible refine iteF ?_
  | with_reducible refine rd_ifnT ?_
  | with_reducible refine rd_ifnF ?_
  | ((with_reducible show rI (fun _ j => (0 : Int) < j) _ _ _ _ _); refine rd_mod (by omega) ?_)
  | with_reducible refine rd_new rfl ?_
  | ((with_reducible show rIxL _ _ (V.int 0) _ _); refine rd_ixL0 (by first | assumption | exact upd_same) ?_)
  | ((with_reducible show rIxL _ _ _ _ _); refine rd_ixL (by first | assumption | exact upd_same) rfl ?_)
  | ((with_reducible show rSetL _ _ _ _ _); refine rd_setL (by first | assumption | exact upd_same) rfl ?_)
  | ((with_reducible show rI CMul _ _ _ _ _); refine rd_mul (by first | exact Or.inl ⟨by omega, by omega⟩ | exact Or.inr ⟨by omega, by omega⟩) ?_)
  | ((with_reducible show tyV _ "list" _ _ ∧ _); refine rd_tyL (by first | assumption | exact upd_same) ?_)
  | ((with_reducible show rIxT _ _ (V.int 0) _ _); refine rd_ixT0 (by first | assumption | exact upd_same) ?_)
  | ((with_reducible show rIxT _ _ _ _ _); refine rd_ixT (by first | assumption | exact upd_same) rfl ?_))
local macro_rules | `(tactic| walk_at "rdn1") => `(tactic| first
  | with_reducible refine rd_seq ?_
  | with_reducible refine rd_asg ?_
  | ((with_reducible show tVar _ _ _ _); refine rd_var rfl ?_)
  | with_reducible refine rd_c ?_
  | with_reducible refine rd_op ?_
  | with_reducible refine rd_I0 ?_
  | with_reducible refine rd_name ?_
  | with_reducible refine rd_ret ?_
  | with_reducible refine rd_ifs ?_
  | with_reducible refine rd_test ?_
  | with_reducible refine rd_tB ?_
  | with_reducible refine rd_bl ?_
  | with_reducible refine rd_drop ?_
  | with_reducible refine rd_nil ?_
  | with_reducible refine rd_cons ?_
  | with_reducible refine rd_call ?_
  | with_reducible refine rd_cb ?_
  | with_reducible refine rd_tup ?_
  | with_reducible refine rd_lst ?_
  | with_reducible refine rd_and ?_
  | with_reducible refine rd_or ?_
  | with_reducible refine rd_not ?_
  | with_reducible refine rd_notV ?_
  | with_reducible refine rd_chain ?_
  | with_reducible refine rd_un ?_
  | with_reducible refine rd_isN ?_
  | with_reducible refine rd_bm ?_
  | with_reducible refine rd_bm0 ?_
  | with_reducible refine rd_gsub ?_
  | with_reducible refine rd_sl ?_
  | with_reducible refine rd_gt ?_
  | with_reducible refine rd_yes ?_
  | with_reducible refine rd_gcons ?_
  | with_reducible refine rd_gnil ?_
  | with_reducible refine rd_part ?_
  | with_reducible refine rd_nopart ?_
  | ((with_reducible show gTup _ _ _ _ _ _ _); refine rd_gtup (by first | assumption | exact upd_same) rfl ?_)
  | ((with_reducible show gLst _ _ _ _ _ _ _); refine rd_glst (by first | assumption | exact upd_same) rfl ?_)
  | ((with_reducible show rIsi _ _ _ _); first | refine rd_isi (b := true) (.ty _) (.base (by first | exact .int _ | exact .str _ | exact .bl _ | exact .non | exact .tup (by assumption) | exact .lst (by assumption))) (kit_ty (by decide +kernel)) ?_ | refine rd_isi (b := false) (.ty _) (.base (by first | exact .int _ | exact .str _ | exact .bl _ | exact .non | exact .tup (by assumption) | exact .lst (by assumption))) (kit_ty (by decide +kernel)) ?_)
  | with_reducible refine rd_fld ?_
  | with_reducible refine rd_sfld ?_
  | with_reducible refine rd_meth ?_
  | with_reducible refine rd_make ?_
  | with_reducible refine rd_makeK ?_
  | with_reducible refine rd_U ?_
  | with_reducible refine rd_makeKS ?_
  | with_reducible refine rd_callN ?_
  | with_reducible refine rd_rs ?_
  | with_reducible refine rd_rf ?_
  | with_reducible refine rd_star ?_
  | with_reducible refine rd_callS ?_
  | with_reducible refine rd_for ?_
  | with_reducible refine rd_lc ?_
  | with_reducible refine rd_ilist ?_
  | with_reducible refine rd_itup ?_
  | with_reducible refine rd_irng ?_
  | with_reducible refine rd_izipS ?_
  | with_reducible refine rd_ienum ?_
  | with_reducible refine rd_ienT ?_
  | with_reducible refine rd_next ?_
  | with_reducible refine rd_eq rfl ?_
  | with_reducible refine rd_ne rfl ?_
  | with_reducible refine iteT ?_
  | with_reducible refine iteF ?_
  | with_reducible refine rd_ifnT ?_
  | with_reducible refine rd_ifnF ?_
  | ((with_reducible show rI (fun _ j => (0 : Int) < j) _ _ _ _ _); refine rd_mod (by omega) ?_)
  | with_reducible refine rd_new rfl ?_
  | ((with_reducible show rIxL _ _ (V.int 0) _ _); refine rd_ixL0 (by first | assumption | exact upd_same) ?_)
  | ((with_reducible show rIxL _ _ _ _ _); refine rd_ixL (by first | assumption | exact upd_same) rfl ?_)
  | ((with_reducible show rSetL _ _ _ _ _); refine rd_setL (by first | assumption | exact upd_same) rfl ?_)
  | ((with_reducible show rI CMul _ _ _ _ _); refine rd_mul (by first | exact Or.inl ⟨by omega, by omega⟩ | exact Or.inr ⟨by omega, by omega⟩) ?_)
  | ((with_reducible show tyV _ "list" _ _ ∧ _); refine rd_tyL (by first | assumption | exact upd_same) ?_)
  | ((with_reducible show rIxT _ _ (V.int 0) _ _); refine rd_ixT0 (by first | assumption | exact upd_same) ?_)
  | ((with_reducible show rIxT _ _ _ _ _); refine rd_ixT (by first | assumption | exact upd_same) rfl ?_))
local macro_rules | `(tactic| walk_at "rd") => `(tactic| (repeat (first | walk_at "rd1" | dsimp only)))
local macro_rules | `(tactic| walk_at "rds") => `(tactic| (dsimp only [cxOf, Cx.nox, Cx.wish, Cx.blk, L2.start]; walk_at "rd"))
local macro_rules | `(tactic| walk_at "rdn") => `(tactic| (repeat (first | walk_at "rdn1" | dsimp only)))
section
variable {P : Program} {w : World} {K : PySem.W.Frag} {mg : Str → Option Value} {base : Heap}

/-- ROW_FORMS, also asked of a word that it lacks -/
def GFoX (K : PySem.W.Frag) (w : World) (mg : Str → Option Value) : Prop := ∃ a, mg "ROW_FORMS" = some (.ref a) ∧ KIsD K a ∧ ∀ z, KGot K w a z ((formOf z).map V.str)
def tFoX (K : PySem.W.Frag) (w : World) : TE := fun _ H Q => ∀ a, KIsD K a → (∀ z, KGot K w a z ((formOf z).map V.str)) → Q (.ref a) H
theorem pe_foX {X : Cx} {pos : Pos} (h : GFoX X.K X.w X.mg) (hg : Gl X "ROW_FORMS") : PE X (.Name "ROW_FORMS" pos) (tFoX X.K X.w) := by
  obtain ⟨a, e, q1, q2⟩ := h
  have p : PE X (.Name "ROW_FORMS" pos) (tC (.ref a)) := pe_glob hg e rfl
  exact ⟨fun pins s σ H Q I hw => p.run pins s σ H Q I (hw a q1 q2)⟩
theorem rd_foX {K : PySem.W.Frag} {w : World} {ty : TE} {σ : L2.St} {H : Hp} {Q : VK} (h : ty σ H fun y H2 => ∃ z, y = .str z ∧ Q (((formOf z).map V.str).getD .non) H2)
    (mono : ∀ R R' : VK, (∀ v H, R v H → R' v H) → ty σ H R → ty σ H R') : tKGet K w (tFoX K w) ty σ H Q := fun a k1 k2 => by
  refine ⟨a, rfl, k1, mono _ _ (fun v H2 q => ?_) h⟩
  obtain ⟨z, e1, q⟩ := q
  exact ⟨z, _, e1, k2 z, q⟩
def spRowX (NT : Addr) : Sp := fun vs H Q E => ∃ z : Str, vs = [.str z] ∧ TxS z ∧ (∀ r, rowRd z = some r → ∀ v H', Rp H' v r.d → Same H H' → Q v H') ∧
  (rowRd z = none → ∀ u d H', H d = none → H' d = some (.xd [("what", .str u)]) → Same H H' → E (.ref NT) (some d) H')
theorem ok_row_ofX {f NT : Addr} {fd : FuncData} (B : BT mg) (F : Fun K "row_of" "row_of" s_row_of f fd) (hm : mg "row_of" = some (.ref f)) (X_NT : ExkT P w K mg base "NoText" NT) (G_ROW_FORMS : GFoX K w mg) (C_number_of : CalN P w K mg base "number_of" 4 ["text"] (spNumX NT)) : CalN P w K mg base "row_of" 5 ["text"] (spRowX NT) := by
  refine ⟨f, fd, hm, F.kp, F.binds (ps := ["text"]) fun _ _ _ _ _ _ us hl => match us, hl with | [_], _ => rfl, ?_⟩
  refine Fun.okN F sc_row_of (fun vs H Q E h => ?_) (fun cdv A outer s H vs Q E hr h => ?_)
  · obtain ⟨z, rfl, _⟩ := h
    rfl
  · obtain ⟨z, rfl, tx, k1, k2⟩ := h
    refine ⟨_, (pss_cons (ps_set (i := 1) sc_row_of.nd rfl (Or.inl rfl) (pe_split (pv 0) pe_str))
 (pss_cons (ps_set (i := 2) sc_row_of.nd rfl (Or.inl rfl) (pe_kget (pe_foX G_ROW_FORMS rfl) (pe_ix (r := rIxL K) ix_list (pv 1) pe_int (fun _ _ => rfl)) ⟨rfl, rfl, rfl, rfl⟩))
 (pss_cons (ps_if (PW.pt (pw_or (pt_cmpR op_isN (pv 2) pe_non (nomark _)) (pw_or1 (pt_cmpR op_ne (pe_callB (cr_lenS (K := K)) rfl B.g_len PySem.boot_len (pa_cons (pv 1) pa_nil)) (pe_op op_add (pe_callB call_len_str rfl B.g_len PySem.boot_len (pa_cons (pv 2) pa_nil)) pe_int) (nomark _))))) (pss_one (ps_raiseT X_NT rfl (L2N.takes_of rfl rfl rfl rfl) (hr.mono (by omega)) rfl (pv 0))) pss_nil)
 (pss_one (ps_ret (pe_op (r := rCatA K) op_catA (pe_tup (pa_cons (pe_ix (r := rIxL K) ix_list (pv 1) pe_int (fun _ _ => rfl)) pa_nil)) (pe_callTy (cr_tupOf (K := K)) rfl B.g_tuple (by decide +kernel) (pa_cons (pe_lcXN (own := [("part", 3)]) (g := gName 3) (tt := tYes) rfl sc_row_of.nd rfl rfl (L2N.takes_of rfl rfl rfl rfl) (pi_listK (K := K) (pe_slice (r := rSlL K) sl_list (pv 1) (po_some pe_int) po_none)) (blkOk_by (own := [("part", 3)]) (N := ["text", "parts", "letters", "part"]) (sc := defScope s_row_of) (by decide +kernel)) (fun _ _ _ _ _ _ => (pg_name (i := 3) sc_row_of.nd rfl (by first | exact Or.inl rfl | exact Or.inr rfl))) (fun _ _ _ _ _ _ => pts_nil) (fun _ _ _ _ _ _ _ tkc => (pe_calNS C_number_of tkc (hr.mono (by omega)) rfl (pa_cons (pv 3) pa_nil)))) pa_nil)))))))), ?_⟩
    have hlz : z.length ≤ sizeLine := Nat.le_trans tx.l (by rw [sizeLine_eq]; decide)
    have hlz2 : z.length + 2 ≤ sizeLine := Nat.le_trans (Nat.add_le_add_right tx.l 2) (by rw [sizeLine_eq]; decide)
    have hpt := tx.part (y := " ") (by decide +kernel) (by decide +kernel)
    have hct := split_cnt z " "
    have hz5 := tx.l
    walk_at "rds"
    refine rd_m1 ?_
    walk_at "rd"
    refine ⟨⟨_, rfl⟩, ?_⟩
    walk_at "rd"
    refine ⟨z, _, rfl, rfl, by decide +kernel, hlz2, fun p hp => ?_⟩
    have hne := split_ne (z := z) (y := " ") (by decide +kernel) (by decide +kernel)
    unfold rowRd at k1 k2
    cases hsp : Txt.split z " " with
    | nil => exact absurd hsp hne
    | cons wd ps =>
    rw [hsp] at k1 k2 hpt hct
    dsimp only at k1 k2
    have s1 := same_upd (o := .lst ((wd :: ps).map V.str)) hp
    walk_at "rd"
    refine rd_foX (w := w) ?_ ?_
    case refine_2 =>
      rintro R R' hR ⟨v, e1, h1⟩
      refine ⟨v, e1, ?_⟩
      obtain ⟨p, xs, i, v, a, b, c, d, q⟩ := h1
      exact ⟨p, xs, i, v, a, b, c, d, hR _ _ q⟩
    walk_at "rd"
    refine ⟨wd, rfl, ?_⟩
    cases e2 : formOf wd with
    | none =>
      rw [e2] at k2
      walk_at "rd"
      refine ⟨rfl, ?_⟩
      walk_at "rd"
      refine rd_ifT rfl ?_
      walk_at "rd"
      refine rd_rsS ?_
      walk_at "rd"
      exact rd_mkS (R := fun d H' => E (.ref NT) d H') X_NT.oex X_NT.wh ⟨_, rfl, tx.c, tx.l⟩ fun d hd => k2 rfl z d _ (s1.free hd) upd_same (s1.trans (same_upd hd))
    | some l =>
    rw [e2] at k1 k2
    dsimp only at k1 k2
    have lf := form_free e2
    walk_at "rd"
    refine ⟨rfl, ?_⟩
    walk_at "rd"
    refine rd_ifF (fun z => nomatch z) ?_
    walk_at "rd"
    refine ⟨p, _, rfl, .inl (SqL.of upd_same), ?_⟩
    walk_at "rd"
    refine ⟨l, rfl, Nat.le_trans (form_len e2) (by decide), ?_⟩
    walk_at "rd"
    refine rd_ifn (fun hq => ?_) (fun hq => ?_)
    case refine_2 =>
      have hne2 : ps.length ≠ l.length := fun q => by
        rw [List.length_map, List.length_cons, q] at hq
        simp at hq
      rw [if_neg hne2] at k2
      walk_at "rd"
      refine rd_rsS ?_
      walk_at "rd"
      exact rd_mkS (R := fun d H' => E (.ref NT) d H') X_NT.oex X_NT.wh ⟨_, rfl, tx.c, tx.l⟩ fun d hd => k2 rfl z d _ (s1.free hd) upd_same (s1.trans (same_upd hd))
    have hll : ps.length = l.length := by
      rw [List.length_map, List.length_cons] at hq
      simp at hq
      omega
    rw [if_pos hll] at k1 k2
    walk_at "rd"
    intro p2 hp2
    have s2 := s1.trans (same_upd (o := .tup [.str wd]) hp2)
    walk_at "rd"
    refine ⟨1, rfl, ?_⟩
    refine ⟨p, _, rfl, SqL.of ((same_upd hp2) _ _ upd_same), fun p3 hp3 => ?_⟩
    have ec : cutV ((wd :: ps).map V.str) (some 1) none = ps.map V.str := by
      unfold cutV
      simp [HT.sIx]
      exact List.take_of_length_le (by simp)
    rw [ec]
    walk_at "rd"
    refine ⟨p3, rfl, ⟨_, SqL.of upd_same⟩, fun D hD => ?_⟩
    generalize hHx : upd (upd (upd H p (.lst ((wd :: ps).map V.str))) p2 (.tup [.str wd])) p3 (.lst (ps.map V.str)) = Hx at hD
    have h3x : Hx p3 = some (.lst (ps.map V.str)) := by rw [← hHx]; exact upd_same
    have h2x : Hx p2 = some (.tup [.str wd]) := by rw [← hHx]; exact (same_upd hp3) _ _ upd_same
    have sx : Same H Hx := by rw [← hHx]; exact s2.trans (same_upd hp3)
    refine lc_it (walk_list (xs := ps.map V.str)) (Rdg D Hx ps numR PyData.int) (Rdg.start hD) (fun i H' _ p => SqL.of (p.same _ _ h3x)) ?_ ?_
    · rintro i y Ha Hb hi pc ⟨rfl, hy⟩
      rw [List.getElem?_map] at hy
      obtain ⟨u, hu, rfl⟩ := Option.map_eq_some_iff.mp hy
      have hum := List.mem_of_getElem? hu
      walk_at "rd"
      refine ⟨rfl, ?_⟩
      walk_at "rd"
      refine ⟨u, rfl, hpt u (List.mem_cons_of_mem _ hum), fun n hn H4 s4 => ?_, fun hn d H4 hd hd4 s4 => ?_⟩
      · exact pc.step hD (by simp at hi; omega) hu hn s4 (.int _)
      · exact k2 (by rw [mapM_none hum hn]; rfl) u d H4 ((sx.trans pc.same).free hd) hd4 ((sx.trans pc.same).trans s4)
    rintro Ha pc
    obtain ⟨vs, ns, hm, he, hvs, hsa⟩ := pc.end (by rw [List.length_map])
    have hv := RpAll.ints_inv (ns := ns) hvs
    subst hv
    walk_at "rd"
    refine ⟨D, _, rfl, .inl ⟨SqL.of he, fun pt hpt => ?_⟩⟩
    have lns := mapM_len hm
    refine rd_catA ((same_upd hpt) _ _ (hsa _ _ h2x)) upd_same (by rw [List.length_map]; show 1 + _ ≤ 1000; omega) fun q6 H6 s6 e6 => ?_
    exact k1 _ (by rw [hm]; rfl) _ _ (.tup e6 (.cons (.str _) (.ints _))) (((sx.trans hsa).trans (same_upd hpt)).trans s6)

end
end Rg

namespace Rg
open PySem PySem.Spec L2
local macro_rules | `(tactic| walk_at "rd1") => `(tactic| first
  | with_reducible refine rd_seq ?_
  | with_reducible refine rd_asg ?_
  | ((with_reducible show tVar _ _ _ _); refine rd_var rfl ?_)
  | with_reducible refine rd_c ?_
  | with_reducible refine rd_op ?_
  | with_reducible refine rd_I0 ?_
  | with_reducible refine rd_name ?_
  | with_reducible refine rd_ret ?_
  | with_reducible refine rd_ifs ?_
  | with_reducible refine rd_test ?_
  | with_reducible refine rd_tB ?_
  | with_reducible refine rd_bl ?_
  | with_reducible refine rd_drop ?_
  | with_reducible refine rd_nil ?_
  | with_reducible refine rd_cons ?_
  | with_reducible refine rd_call ?_
  | with_reducible refine rd_cb ?_
  | with_reducible refine rd_tup ?_
  | with_reducible refine rd_lst ?_
  | with_reducible refine rd_and ?_
  | with_reducible refine rd_or ?_
  | with_reducible refine rd_not ?_
  | with_reducible refine rd_andV ?_
  | with_reducible refine rd_orV ?_
  | with_reducible refine rd_notV ?_
  | with_reducible refine rd_chain ?_
  | with_reducible refine rd_un ?_
  | with_reducible refine rd_isN ?_
  | with_reducible refine rd_bm ?_
  | with_reducible refine rd_bm0 ?_
  | with_reducible refine rd_gsub ?_
  | with_reducible refine rd_sl ?_
  | with_reducible refine rd_gt ?_
  | with_reducible refine rd_yes ?_
  | with_reducible refine rd_gcons ?_
  | with_reducible refine rd_gnil ?_
  | with_reducible refine rd_part ?_
  | with_reducible refine rd_nopart ?_
  | ((with_reducible show gTup _ _ _ _ _ _ _); refine rd_gtup (by first | assumption | exact upd_same) rfl ?_)
  | ((with_reducible show gLst _ _ _ _ _ _ _); refine rd_glst (by first | assumption | exact upd_same) rfl ?_)
  | ((with_reducible show rIsi _ _ _ _); first | refine rd_isi (b := true) (.ty _) (.base (by first | exact .int _ | exact .str _ | exact .bl _ | exact .non | exact .tup (by assumption) | exact .lst (by assumption))) (kit_ty (by decide +kernel)) ?_ | refine rd_isi (b := false) (.ty _) (.base (by first | exact .int _ | exact .str _ | exact .bl _ | exact .non | exact .tup (by assumption) | exact .lst (by assumption))) (kit_ty (by decide +kernel)) ?_)
  | with_reducible refine rd_fld ?_
  | with_reducible refine rd_sfld ?_
  | with_reducible refine rd_meth ?_
  | with_reducible refine rd_make ?_
  | with_reducible refine rd_makeK ?_
  | with_reducible refine rd_U ?_
  | with_reducible refine rd_makeKS ?_
  | with_reducible refine rd_callN ?_
  | with_reducible refine rd_rs ?_
  | with_reducible refine rd_rf ?_
  | with_reducible refine rd_star ?_
  | with_reducible refine rd_callS ?_
  | with_reducible refine rd_for ?_
  | with_reducible refine rd_lc ?_
  | with_reducible refine rd_ilist ?_
  | with_reducible refine rd_itup ?_
  | with_reducible refine rd_irng ?_
  | with_reducible refine rd_izipS ?_
  | with_reducible refine rd_ienum ?_
  | with_reducible refine rd_ienT ?_
  | with_reducible refine rd_next ?_
  | with_reducible refine rd_eq rfl ?_
  | with_reducible refine rd_ne rfl ?_
  | with_reducible refine iteT ?_
  | with_reducible refine iteF ?_
  | with_reducible refine rd_ifnT ?_
  | with_reducible refine rd_ifnF ?_
  | ((with_reducible show rI (fun _ j => (0 : Int) < j) _ _ _ _ _); refine rd_mod (by omega) ?_)
  | with_reducible refine rd_new rfl ?_
  | ((with_reducible show rIxL _ _ (V.int 0) _ _); refine rd_ixL0 (by first | assumption | exact upd_same) ?_)
  | ((with_reducible show rIxL _ _ _ _ _); refine rd_ixL (by first | assumption | exact upd_same) rfl ?_)
  | ((with_reducible show rSetL _ _ _ _ _); refine rd_setL (by first | assumption | exact upd_same) rfl ?_)
  | ((with_reducible show rI CMul _ _ _ _ _); refine rd_mul (by first | exact Or.inl ⟨by omega, by omega⟩ | exact Or.inr ⟨by omega, by omega⟩) ?_)
  | ((with_reducible show tyV _ "list" _ _ ∧ _); refine rd_tyL (by first | assumption | exact upd_same) ?_)
  | ((with_reducible show rIxT _ _ (V.int 0) _ _); refine rd_ixT0 (by first | assumption | exact upd_same) ?_)
  | ((with_reducible show rIxT _ _ _ _ _); refine rd_ixT (by first | assumption | exact upd_same) rfl ?_))
local macro_rules | `(tactic| walk_at "rdn1") => `(tactic| first
  | with_reducible refine rd_seq ?_
  | with_reducible refine rd_asg ?_
  | ((with_reducible show tVar _ _ _ _); refine rd_var rfl ?_)
  | with_reducible refine rd_c ?_
  | with_reducible refine rd_op ?_
  | with_reducible refine rd_I0 ?_
  | with_reducible refine rd_name ?_
  | with_reducible refine rd_ret ?_
  | with_reducible refine rd_ifs ?_
  | with_reducible refine rd_test ?_
  | with_reducible refine rd_tB ?_
  | with_reducible refine rd_bl ?_
  | with_reducible refine rd_drop ?_
  | with_reducible refine rd_nil ?_
  | with_reducible refine rd_cons ?_
  | with_reducible refine rd_call ?_
  | with_reducible refine rd_cb ?_
  | with_reducible refine rd_tup ?_
  | with_reducible refine rd_lst ?_
  | with_reducible refine rd_and ?_
  | with_reducible refine rd_or ?_
  | with_reducible refine rd_not ?_
  | with_reducible refine rd_notV ?_
  | with_reducible refine rd_chain ?_
  | with_reducible refine rd_un ?_
  | with_reducible refine rd_isN ?_
  | with_reducible refine rd_bm ?_
  | with_reducible refine rd_bm0 ?_
  | with_reducible refine rd_gsub ?_
  | with_reducible refine rd_sl ?_
  | with_reducible refine rd_gt ?_
  | with_reducible refine rd_yes ?_
  | with_reducible refine rd_gcons ?_
  | with_reducible refine rd_gnil ?_
  | with_reducible refine rd_part ?_
  | with_reducible refine rd_nopart ?_
  | ((with_reducible show gTup _ _ _ _ _ _ _); refine rd_gtup (by first | assumption | exact upd_same) rfl ?_)
  | ((with_reducible show gLst _ _ _ _ _ _ _); refine rd_glst (by first | assumption | exact upd_same) rfl ?_)
  | ((with_reducible show rIsi _ _ _ _); first | refine rd_isi (b := true) (.ty _) (.base (by first | exact .int _ | exact .str _ | exact .bl _ | exact .non | exact .tup (by assumption) | exact .lst (by assumption))) (kit_ty (by decide +kernel)) ?_ | refine rd_isi (b := false) (.ty _) (.base (by first | exact .int _ | exact .str _ | exact .bl _ | exact .non | exact .tup (by assumption) | exact .lst (by assumption))) (kit_ty (by decide +kernel)) ?_)
  | with_reducible refine rd_fld ?_
  | with_reducible refine rd_sfld ?_
  | with_reducible refine rd_meth ?_
  | with_reducible refine rd_make ?_
  | with_reducible refine rd_makeK ?_
  | with_reducible refine rd_U ?_
  | with_reducible refine rd_makeKS ?_
  | with_reducible refine rd_callN ?_
  | with_reducible refine rd_rs ?_
  | with_reducible refine rd_rf ?_
  | with_reducible refine rd_star ?_
  | with_reducible refine rd_callS ?_
  | with_reducible refine rd_for ?_
  | with_reducible refine rd_lc ?_
  | with_reducible refine rd_ilist ?_
  | with_reducible refine rd_itup ?_
  | with_reducible refine rd_irng ?_
  | with_reducible refine rd_izipS ?_
  | with_reducible refine rd_ienum ?_
  | with_reducible refine rd_ienT ?_
  | with_reducible refine rd_next ?_
  | with_reducible refine rd_eq rfl ?_
  | with_reducible refine rd_ne rfl ?_
  | with_reducible refine iteT ?_
  | with_reducible refine iteF ?_
  | with_reducible refine rd_ifnT ?_
  | with_reducible refine rd_ifnF ?_
  | ((with_reducible show rI (fun _ j => (0 : Int) < j) _ _ _ _ _); refine rd_mod (by omega) ?_)
  | with_reducible refine rd_new rfl ?_
  | ((with_reducible show rIxL _ _ (V.int 0) _ _); refine rd_ixL0 (by first | assumption | exact upd_same) ?_)
  | ((with_reducible show rIxL _ _ _ _ _); refine rd_ixL (by first | assumption | exact upd_same) rfl ?_)
  | ((with_reducible show rSetL _ _ _ _ _); refine rd_setL (by first | assumption | exact upd_same) rfl ?_)
  | ((with_reducible show rI CMul _ _ _ _ _); refine rd_mul (by first | exact Or.inl ⟨by omega, by omega⟩ | exact Or.inr ⟨by omega, by omega⟩) ?_)
  | ((with_reducible show tyV _ "list" _ _ ∧ _); refine rd_tyL (by first | assumption | exact upd_same) ?_)
  | ((with_reducible show rIxT _ _ (V.int 0) _ _); refine rd_ixT0 (by first | assumption | exact upd_same) ?_)
  | ((with_reducible show rIxT _ _ _ _ _); refine rd_ixT (by first | assumption | exact upd_same) rfl ?_))
local macro_rules | `(tactic| walk_at "rd") => `(tactic| (repeat (first | walk_at "rd1" | dsimp only)))
local macro_rules | `(tactic| walk_at "rds") => `(tactic| (dsimp only [cxOf, Cx.nox, Cx.wish, Cx.blk, L2.start]; walk_at "rd"))
local macro_rules | `(tactic| walk_at "rdn") => `(tactic| (repeat (first | walk_at "rdn1" | dsimp only)))
section
variable {P : Program} {w : World} {K : PySem.W.Frag} {mg : Str → Option Value} {base : Heap}

def spReadX (NT : Addr) : Sp := fun vs H Q E => ∃ z : Str, vs = [.str z] ∧ TxS z ∧ (∀ rs, deedsR z = some rs → ∀ (L : Addr) (us : List V) (H' : Hp), H L = none → H' L = some (.lst us) → RpAll H' us (rs.map Rw.d) → Same H H' → Q (.ref L) H') ∧
  (deedsR z = none → ∀ d H', H d = none → H' d = some (.xd [("what", .str z)]) → Same H H' → E (.ref NT) (some d) H')
theorem fn_read_deedsX {f NT : Addr} {fd : FuncData} (B : BT mg) (F : Fun K "read_deeds" "read_deeds" s_read_deeds f fd) (X_NT : ExkT P w K mg base "NoText" NT) (hsub : PySem.W.exmOne K (.ref NT) (.ref NT) = some true) (G_NOTHING : GS mg "NOTHING" "-") (C_row_of : CalN P w K mg base "row_of" 5 ["text"] (spRowX NT)) : FnOk P w K mg base (L2.CX P w) 7 f fd ["text"] (spReadX NT) := by
  refine F.okX sc_read_deeds (fun vs H Q E h => ?_) (fun cdv A outer s H vs Q E hr h => ?_)
  · obtain ⟨z, rfl, _⟩ := h
    rfl
  · obtain ⟨z, rfl, tx, k1, k2⟩ := h
    refine ⟨_, (pss_cons (ps_if (pt_cmpR op_eq (pv 0) (pe_gs G_NOTHING rfl) (nomark _)) (pss_one (ps_ret (pe_lst pa_nil))) pss_nil)
 (pss_one (L2H.ps_try_onlyX rfl rfl ⟨rfl, by decide, .inl X_NT.mgx⟩ (fun hd => L2H.passesAt_of rfl hd) (takes_of rfl rfl rfl rfl) (fun W pn xe tk tkP _ => (pss_one (ps_ret (pe_lcXN (own := [("part", 1)]) (g := gName 1) (tt := tYes) rfl sc_read_deeds.nd rfl rfl tk (pi_listK (K := K) (pe_split (pv 0) pe_str)) (blkOk_by (own := [("part", 1)]) (N := ["text", "part"]) (sc := defScope s_read_deeds) (by decide +kernel)) (fun _ _ _ _ _ _ => (pg_name (i := 1) sc_read_deeds.nd rfl (by first | exact Or.inl rfl | exact Or.inr rfl))) (fun _ _ _ _ _ _ => pts_nil) (fun _ _ _ _ _ _ _ tkc => (pe_calNS C_row_of tkc (hr.mono (by omega)) rfl (pa_cons (pv 1) pa_nil))))))) (fun a oe cls d pn hz hf tk2 hot => (pss_one (ps_raiseTH (x := "NoText") (K := K) X_NT hot tk2 (L2H.roomH_mark (hr.mono (by omega)) _) rfl (pv 0))))))), ?_⟩
    walk_at "rds"
    have hlz2 : z.length + 2 ≤ sizeLine := Nat.le_trans (Nat.add_le_add_right tx.l 2) (by rw [sizeLine_eq]; decide)
    have hpt := tx.part (y := ", ") (by decide +kernel) (by decide +kernel)
    have hct := split_cnt z ", "
    have hz5 := tx.l
    refine rd_ifd (fun h => ?_) (fun h => ?_)
    · have hz : z = "-" := by injection h
      walk_at "rd"
      intro p hp
      exact k1 [] (by unfold deedsR; rw [if_pos hz]) p [] _ hp upd_same .nil (same_upd hp)
    · have hz : z ≠ "-" := fun q => h (by rw [q])
      unfold deedsR at k1 k2
      rw [if_neg hz] at k1 k2
      walk_at "rd"
      refine rd_m1 ?_
      walk_at "rd"
      refine ⟨⟨_, rfl⟩, ?_⟩
      walk_at "rd"
      refine ⟨z, _, rfl, rfl, by decide +kernel, hlz2, fun p hp => ?_⟩
      have s1 := same_upd (o := .lst ((Txt.split z ", ").map V.str)) hp
      walk_at "rd"
      refine ⟨p, rfl, ⟨_, SqL.of upd_same⟩, fun D hD => ?_⟩
      refine lc_it (walk_list (xs := (Txt.split z ", ").map V.str)) (Rdg D _ (Txt.split z ", ") rowRd Rw.d) (Rdg.start hD) (fun i H' _ p => SqL.of (p.same _ _ upd_same)) ?_ ?_
      · rintro i y Ha Hb hi pc ⟨rfl, hy⟩
        rw [List.getElem?_map] at hy
        obtain ⟨u, hu, rfl⟩ := Option.map_eq_some_iff.mp hy
        have hum := List.mem_of_getElem? hu
        walk_at "rd"
        refine ⟨rfl, ?_⟩
        walk_at "rd"
        refine ⟨u, rfl, hpt u hum, fun r hn v H4 rv s4 => ?_, fun hn u2 d H4 hd hd4 s4 => ?_⟩
        · exact pc.step hD (by simp at hi; omega) hu hn s4 rv
        · refine ⟨true, hsub, fun _ a ha => ?_, fun z => nomatch z⟩
          walk_at "rd"
          refine rd_rsS ?_
          walk_at "rd"
          have sx := (s1.trans pc.same).trans s4
          exact rd_mkS (R := fun d H' => E (.ref NT) d H') X_NT.oex X_NT.wh ⟨_, rfl, tx.c, tx.l⟩ fun d hd => k2 (mapM_none hum hn) d _ (sx.free hd) upd_same (sx.trans (same_upd hd))
      rintro Ha pc
      obtain ⟨us, rs, hm, h1, h2, h3⟩ := pc.end (by rw [List.length_map])
      walk_at "rd"
      exact k1 rs hm D us _ (s1.free hD) h1 h2 (s1.trans h3)
theorem ok_read_deedsX {f NT : Addr} {fd : FuncData} (B : BT mg) (F : Fun K "read_deeds" "read_deeds" s_read_deeds f fd) (hm : mg "read_deeds" = some (.ref f)) (X_NT : ExkT P w K mg base "NoText" NT) (hsub : PySem.W.exmOne K (.ref NT) (.ref NT) = some true) (G_NOTHING : GS mg "NOTHING" "-") (C_row_of : CalN P w K mg base "row_of" 5 ["text"] (spRowX NT)) : CalX P w K mg base "read_deeds" 7 ["text"] (spReadX NT) :=
  ⟨f, fd, hm, F.kp, F.binds (ps := ["text"]) fun _ _ _ _ _ _ us hl => match us, hl with | [_], _ => rfl, fn_read_deedsX B F X_NT hsub G_NOTHING C_row_of⟩

end
end Rg

namespace Rg
open PySem PySem.Spec L2
local macro_rules | `(tactic| walk_at "rd1") => `(tactic| first
  | with_reducible refine rd_seq ?_
  | with_reducible refine rd_asg ?_
  | ((with_reducible show tVar _ _ _ _); refine rd_var rfl ?_)
  | with_reducible refine rd_c ?_
  | with_reducible refine rd_op ?_
  | with_reducible refine rd_I0 ?_
  | with_reducible refine rd_name ?_
  | with_reducible refine rd_ret ?_
  | with_reducible refine rd_ifs ?_
  | with_reducible refine rd_test ?_
  | with_reducible refine rd_tB ?_
  | with_reducible refine rd_bl ?_
  | with_reducible refine rd_drop ?_
  | with_reducible refine rd_nil ?_
  | with_reducible refine rd_cons ?_
  | with_reducible refine rd_call ?_
  | with_reducible refine rd_cb ?_
  | with_reducible refine rd_tup ?_
  | with_reducible refine rd_lst ?_
  | with_reducible refine rd_and ?_
  | with_reducible refine rd_or ?_
  | with_reducible refine rd_not ?_
  | with_reducible refine rd_andV ?_
  | with_reducible refine rd_orV ?_
  | with_reducible refine rd_notV ?_
  | with_reducible refine rd_chain ?_
  | with_reducible refine rd_un ?_
  | with_reducible refine rd_isN ?_
  | with_reducible refine rd_bm ?_
  | with_reducible refine rd_bm0 ?_
  | with_reducible refine rd_gsub ?_
  | with_reducible refine rd_sl ?_
  | with_reducible refine rd_gt ?_
  | with_reducible refine rd_yes ?_
  | with_reducible refine rd_gcons ?_
  | with_reducible refine rd_gnil ?_
  | with_reducible refine rd_part ?_
  | with_reducible refine rd_nopart ?_
  | ((with_reducible show gTup _ _ _ _ _ _ _); refine rd_gtup (by first | assumption | exact upd_same) rfl ?_)
  | ((with_reducible show gLst _ _ _ _ _ _ _); refine rd_glst (by first | assumption | exact upd_same) rfl ?_)
  | ((with_reducible show rIsi _ _ _ _); first | refine rd_isi (b := true) (.ty _) (.base (by first | exact .int _ | exact .str _ | exact .bl _ | exact .non | exact .tup (by assumption) | exact .lst (by assumption))) (kit_ty (by decide +kernel)) ?_ | refine rd_isi (b := false) (.ty _) (.base (by first | exact .int _ | exact .str _ | exact .bl _ | exact .non | exact .tup (by assumption) | exact .lst (by assumption))) (kit_ty (by decide +kernel)) ?_)
  | with_reducible refine rd_fld ?_
  | with_reducible refine rd_sfld ?_
  | with_reducible refine rd_meth ?_
  | with_reducible refine rd_make ?_
  | with_reducible refine rd_makeK ?_
  | with_reducible refine rd_U ?_
  | with_reducible refine rd_makeKS ?_
  | with_reducible refine rd_callN ?_
  | with_reducible refine rd_rs ?_
  | with_reducible refine rd_rf ?_
  | with_reducible refine rd_star ?_
  | with_reducible refine rd_callS ?_
  | with_reducible refine rd_for ?_
  | with_reducible refine rd_lc ?_
  | with_reducible refine rd_ilist ?_
  | with_reducible refine rd_itup ?_
  | with_reducible refine rd_irng ?_
  | with_reducible refine rd_izipS ?_
  | with_reducible refine rd_ienum ?_
  | with_reducible refine rd_ienT ?_
  | with_reducible refine rd_next ?_
  | with_reducible refine rd_eq rfl ?_
  | with_reducible refine rd_ne rfl ?_
  | with_reducible refine iteT ?_
  | with_reducible refine iteF ?_
  | with_reducible refine rd_ifnT ?_
  | with_reducible refine rd_ifnF ?_
  | ((with_reducible show rI (fun _ j => (0 : Int) < j) _ _ _ _ _); refine rd_mod (by omega) ?_)
  | with_reducible refine rd_new rfl ?_
  | ((with_reducible show rIxL _ _ (V.int 0) _ _); refine rd_ixL0 (by first | assumption | exact upd_same) ?_)
  | ((with_reducible show rIxL _ _ _ _ _); refine rd_ixL (by first | assumption | exact upd_same) rfl ?_)
  | ((with_reducible show rSetL _ _ _ _ _); refine rd_setL (by first | assumption | exact upd_same) rfl ?_)
  | ((with_reducible show rI CMul _ _ _ _ _); refine rd_mul (by first | exact Or.inl ⟨by omega, by omega⟩ | exact Or.inr ⟨by omega, by omega⟩) ?_)
  | ((with_reducible show tyV _ "list" _ _ ∧ _); refine rd_tyL (by first | assumption | exact upd_same) ?_)
  | ((with_reducible show rIxT _ _ (V.int 0) _ _); refine rd_ixT0 (by first | assumption | exact upd_same) ?_)
  | ((with_reducible show rIxT _ _ _ _ _); refine rd_ixT (by first | assumption | exact upd_same) rfl ?_))
local macro_rules | `(tactic| walk_at "rdn1") => `(tactic| first
  | with_reducible refine rd_seq ?_
  | with_reducible refine rd_asg ?_
  | ((with_reducible show tVar _ _ _ _); refine rd_var rfl ?_)
  | with_reducible refine rd_c ?_
  | with_reducible refine rd_op ?_
  | with_reducible refine rd_I0 ?_
  | with_reducible refine rd_name ?_
  | with_reducible refine rd_ret ?_
  | with_reducible refine rd_ifs ?_
  | with_reducible refine rd_test ?_
  | with_reducible refine rd_tB ?_
  | with_reducible refine rd_bl ?_
  | with_reducible refine rd_drop ?_
  | with_reducible refine rd_nil ?_
  | with_reducible refine rd_cons ?_
  | with_reducible refine rd_call ?_
  | with_reducible refine rd_cb ?_
  | with_reducible refine rd_tup ?_
  | with_reducible refine rd_lst ?_
  | with_reducible refine rd_and ?_
  | with_reducible refine rd_or ?_
  | with_reducible refine rd_not ?_
  | with_reducible refine rd_notV ?_
  | with_reducible refine rd_chain ?_
  | with_reducible refine rd_un ?_
  | with_reducible refine rd_isN ?_
  | with_reducible refine rd_bm ?_
  | with_reducible refine rd_bm0 ?_
  | with_reducible refine rd_gsub ?_
  | with_reducible refine rd_sl ?_
  | with_reducible refine rd_gt ?_
  | with_reducible refine rd_yes ?_
  | with_reducible refine rd_gcons ?_
  | with_reducible refine rd_gnil ?_
  | with_reducible refine rd_part ?_
  | with_reducible refine rd_nopart ?_
  | ((with_reducible show gTup _ _ _ _ _ _ _); refine rd_gtup (by first | assumption | exact upd_same) rfl ?_)
  | ((with_reducible show gLst _ _ _ _ _ _ _); refine rd_glst (by first | assumption | exact upd_same) rfl ?_)
  | ((with_reducible show rIsi _ _ _ _); first | refine rd_isi (b := true) (.ty _) (.base (by first | exact .int _ | exact .str _ | exact .bl _ | exact .non | exact .tup (by assumption) | exact .lst (by assumption))) (kit_ty (by decide +kernel)) ?_ | refine rd_isi (b := false) (.ty _) (.base (by first | exact .int _ | exact .str _ | exact .bl _ | exact .non | exact .tup (by assumption) | exact .lst (by assumption))) (kit_ty (by decide +kernel)) ?_)
  | with_reducible refine rd_fld ?_
  | with_reducible refine rd_sfld ?_
  | with_reducible refine rd_meth ?_
  | with_reducible refine rd_make ?_
  | with_reducible refine rd_makeK ?_
  | with_reducible refine rd_U ?_
  | with_reducible refine rd_makeKS ?_
  | with_reducible refine rd_callN ?_
  | with_reducible refine rd_rs ?_
  | with_reducible refine rd_rf ?_
  | with_reducible refine rd_star ?_
  | with_reducible refine rd_callS ?_
  | with_reducible refine rd_for ?_
  | with_reducible refine rd_lc ?_
  | with_reducible refine rd_ilist ?_
  | with_reducible refine rd_itup ?_
  | with_reducible refine rd_irng ?_
  | with_reducible refine rd_izipS ?_
  | with_reducible refine rd_ienum ?_
  | with_reducible refine rd_ienT ?_
  | with_reducible refine rd_next ?_
  | with_reducible refine rd_eq rfl ?_
  | with_reducible refine rd_ne rfl ?_
  | with_reducible refine iteT ?_
  | with_reducible refine iteF ?_
  | with_reducible refine rd_ifnT ?_
  | with_reducible refine rd_ifnF ?_
  | ((with_reducible show rI (fun _ j => (0 : Int) < j) _ _ _ _ _); refine rd_mod (by omega) ?_)
  | with_reducible refine rd_new rfl ?_
  | ((with_reducible show rIxL _ _ (V.int 0) _ _); refine rd_ixL0 (by first | assumption | exact upd_same) ?_)
  | ((with_reducible show rIxL _ _ _ _ _); refine rd_ixL (by first | assumption | exact upd_same) rfl ?_)
  | ((with_reducible show rSetL _ _ _ _ _); refine rd_setL (by first | assumption | exact upd_same) rfl ?_)
  | ((with_reducible show rI CMul _ _ _ _ _); refine rd_mul (by first | exact Or.inl ⟨by omega, by omega⟩ | exact Or.inr ⟨by omega, by omega⟩) ?_)
  | ((with_reducible show tyV _ "list" _ _ ∧ _); refine rd_tyL (by first | assumption | exact upd_same) ?_)
  | ((with_reducible show rIxT _ _ (V.int 0) _ _); refine rd_ixT0 (by first | assumption | exact upd_same) ?_)
  | ((with_reducible show rIxT _ _ _ _ _); refine rd_ixT (by first | assumption | exact upd_same) rfl ?_))
local macro_rules | `(tactic| walk_at "rd") => `(tactic| (repeat (first | walk_at "rd1" | dsimp only)))
local macro_rules | `(tactic| walk_at "rds") => `(tactic| (dsimp only [cxOf, Cx.nox, Cx.wish, Cx.blk, L2.start]; walk_at "rd"))
local macro_rules | `(tactic| walk_at "rdn") => `(tactic| (repeat (first | walk_at "rdn1" | dsimp only)))
section
variable {P : Program} {w : World} {K : PySem.W.Frag} {mg : Str → Option Value} {base : Heap}

def CompFl {β : Type} (D : Addr) (H1 : Hp) (xs : List β) (pb : β → Bool) (f : β → PyData) (i : Nat) (H' : Hp) : Prop := ∃ ws, H' D = some (.lst ws) ∧ RpAll H' ws (((xs.take i).filter pb).map f) ∧ Same H1 H'
theorem CompFl.start {β : Type} {D : Addr} {H1 : Hp} {xs : List β} {pb : β → Bool} {f : β → PyData} (hD : H1 D = none) : CompFl D H1 xs pb f 0 (upd H1 D (.lst [])) := ⟨[], upd_same, .nil, same_upd hD⟩
theorem CompFl.skip {β : Type} {D : Addr} {H1 H2 H4 : Hp} {xs : List β} {pb : β → Bool} {f : β → PyData} {i : Nat} {b : β} (h : CompFl D H1 xs pb f i H2) (hb : xs[i]? = some b) (hp : pb b = false) (k : Same H2 H4) : CompFl D H1 xs pb f (i + 1) H4 := by
  obtain ⟨ws, h1, h2, s1⟩ := h
  refine ⟨ws, k _ _ h1, ?_, s1.trans k⟩
  rw [take_snoc hb, List.filter_append, List.filter_cons_of_neg (by rw [hp]; decide), List.filter_nil, List.append_nil]
  exact h2.keep (Tk.of k)
theorem CompFl.step {β : Type} {D : Addr} {H1 H2 H4 : Hp} {xs : List β} {pb : β → Bool} {f : β → PyData} {i : Nat} {b : β} {y : V} (h : CompFl D H1 xs pb f i H2) (hD : H1 D = none) (hi : i ≤ 1000) (hb : xs[i]? = some b) (hp : pb b = true) (k : Same H2 H4) (r : Rp H4 y (f b)) :
    ∃ acc, H4 D = some (.lst acc) ∧ acc.length < sizeLine ∧ CompFl D H1 xs pb f (i + 1) (upd H4 D (.lst (acc ++ [y]))) := by
  obtain ⟨vs, h1, h2, s1⟩ := h
  have e4 := k _ _ h1
  have tk : Tk H4 (upd H4 D (.lst (vs ++ [y]))) := Tk.lst e4
  refine ⟨vs, e4, ?_, vs ++ [y], upd_same, ?_, fun c o q => ?_⟩
  · rw [h2.length, List.length_map]
    have := List.length_filter_le pb (xs.take i)
    rw [List.length_take] at this
    exact small1000 (by omega)
  · rw [take_snoc hb, List.filter_append, List.filter_cons_of_pos hp, List.filter_nil, List.map_append]
    exact ((h2.keep (Tk.of k)).keep tk).append (.cons (r.keep tk) .nil)
  · rw [upd_ne (ne_of_none q hD)]
    exact k _ _ (s1 _ _ q)

end
end Rg

namespace Rg
open PySem PySem.Spec L2
local macro_rules | `(tactic| walk_at "rd1") => `(tactic| first
  | with_reducible refine rd_seq ?_
  | with_reducible refine rd_asg ?_
  | ((with_reducible show tVar _ _ _ _); refine rd_var rfl ?_)
  | with_reducible refine rd_c ?_
  | with_reducible refine rd_op ?_
  | with_reducible refine rd_I0 ?_
  | with_reducible refine rd_name ?_
  | with_reducible refine rd_ret ?_
  | with_reducible refine rd_ifs ?_
  | with_reducible refine rd_test ?_
  | with_reducible refine rd_tB ?_
  | with_reducible refine rd_bl ?_
  | with_reducible refine rd_drop ?_
  | with_reducible refine rd_nil ?_
  | with_reducible refine rd_cons ?_
  | with_reducible refine rd_call ?_
  | with_reducible refine rd_cb ?_
  | with_reducible refine rd_tup ?_
  | with_reducible refine rd_lst ?_
  | with_reducible refine rd_and ?_
  | with_reducible refine rd_or ?_
  | with_reducible refine rd_not ?_
  | with_reducible refine rd_andV ?_
  | with_reducible refine rd_orV ?_
  | with_reducible refine rd_notV ?_
  | with_reducible refine rd_chain ?_
  | with_reducible refine rd_un ?_
  | with_reducible refine rd_isN ?_
  | with_reducible refine rd_bm ?_
  | with_reducible refine rd_bm0 ?_
  | with_reducible refine rd_gsub ?_
  | with_reducible refine rd_sl ?_
  | with_reducible refine rd_gt ?_
  | with_reducible refine rd_yes ?_
  | with_reducible refine rd_gcons ?_
  | with_reducible refine rd_gnil ?_
  | with_reducible refine rd_part ?_
  | with_reducible refine rd_nopart ?_
  | ((with_reducible show gTup _ _ _ _ _ _ _); refine rd_gtup (by first | assumption | exact upd_same) rfl ?_)
  | ((with_reducible show gLst _ _ _ _ _ _ _); refine rd_glst (by first | assumption | exact upd_same) rfl ?_)
  | ((with_reducible show rIsi _ _ _ _); first | refine rd_isi (b := true) (.ty _) (.base (by first | exact .int _ | exact .str _ | exact .bl _ | exact .non | exact .tup (by assumption) | exact .lst (by assumption))) (kit_ty (by decide +kernel)) ?_ | refine rd_isi (b := false) (.ty _) (.base (by first | exact .int _ | exact .str _ | exact .bl _ | exact .non | exact .tup (by assumption) | exact .lst (by assumption))) (kit_ty (by decide +kernel)) ?_)
  | with_reducible refine rd_fld ?_
  | with_reducible refine rd_sfld ?_
  | with_reducible refine rd_meth ?_
  | with_reducible refine rd_make ?_
  | with_reducible refine rd_makeK ?_
  | with_reducible refine rd_U ?_
  | with_reducible refine rd_makeKS ?_
  | with_reducible refine rd_callN ?_
  | with_reducible refine rd_rs ?_
  | with_reducible refine rd_rf ?_
  | with_reducible refine rd_star ?_
  | with_reducible refine rd_callS ?_
  | with_reducible refine rd_for ?_
  | with_reducible refine rd_lc ?_
  | with_reducible refine rd_ilist ?_
  | with_reducible refine rd_itup ?_
  | with_reducible refine rd_irng ?_
  | with_reducible refine rd_izipS ?_
  | with_reducible refine rd_ienum ?_
  | with_reducible refine rd_ienT ?_
  | with_reducible refine rd_next ?_
  | with_reducible refine rd_eq rfl ?_
  | with_reducible refine rd_ne rfl ?_
  | with_reducible refine iteT ?_
  | with_reducible refine iteF ?_
  | with_reducible refine rd_ifnT ?_
  | with_reducible refine rd_ifnF ?_
  | ((with_reducible show rI (fun _ j => (0 : Int) < j) _ _ _ _ _); refine rd_mod (by omega) ?_)
  | with_reducible refine rd_new rfl ?_
  | ((with_reducible show rIxL _ _ (V.int 0) _ _); refine rd_ixL0 (by first | assumption | exact upd_same) ?_)
  | ((with_reducible show rIxL _ _ _ _ _); refine rd_ixL (by first | assumption | exact upd_same) rfl ?_)
  | ((with_reducible show rSetL _ _ _ _ _); refine rd_setL (by first | assumption | exact upd_same) rfl ?_)
  | ((with_reducible show rI CMul _ _ _ _ _); refine rd_mul (by first | exact Or.inl ⟨by omega, by omega⟩ | exact Or.inr ⟨by omega, by omega⟩) ?_)
  | ((with_reducible show tyV _ "list" _ _ ∧ _); refine rd_tyL (by first | assumption | exact upd_same) ?_)
  | ((with_reducible show rIxT _ _ (V.int 0) _ _); refine rd_ixT0 (by first | assumption | exact upd_same) ?_)
  | ((with_reducible show rIxT _ _ _ _ _); refine rd_ixT (by first | assumption | exact upd_same) rfl ?_))
local macro_rules | `(tactic| walk_at "rdn1") => `(tactic| first
  | with_reducible refine rd_seq ?_
  | with_reducible refine rd_asg ?_
  | ((with_reducible show tVar _ _ _ _); refine rd_var rfl ?_)
  | with_reducible refine rd_c ?_
  | with_reducible refine rd_op ?_
  | with_reducible refine rd_I0 ?_
  | with_reducible refine rd_name ?_
  | with_reducible refine rd_ret ?_
  | with_reducible refine rd_ifs ?_
  | with_reducible refine rd_test ?_
  | with_reducible refine rd_tB ?_
  | with_reducible refine rd_bl ?_
  | with_reducible refine rd_drop ?_
  | with_reducible refine rd_nil ?_
  | with_reducible refine rd_cons ?_
  | with_reducible refine rd_call ?_
  | with_reducible refine rd_cb ?_
  | with_reducible refine rd_tup ?_
  | with_reducible refine rd_lst ?_
  | with_reducible refine rd_and ?_
  | with_reducible refine rd_or ?_
  | with_reducible refine rd_not ?_
  | with_reducible refine rd_notV ?_
  | with_reducible refine rd_chain ?_
  | with_reducible refine rd_un ?_
  | with_reducible refine rd_isN ?_
  | with_reducible refine rd_bm ?_
  | with_reducible refine rd_bm0 ?_
  | with_reducible refine rd_gsub ?_
  | with_reducible refine rd_sl ?_
  | with_reducible refine rd_gt ?_
  | with_reducible refine rd_yes ?_
  | with_reducible refine rd_gcons ?_
  | with_reducible refine rd_gnil ?_
  | with_reducible refine rd_part ?_
  | with_reducible refine rd_nopart ?_
  | ((with_reducible show gTup _ _ _ _ _ _ _); refine rd_gtup (by first | assumption | exact upd_same) rfl ?_)
  | ((with_reducible show gLst _ _ _ _ _ _ _); refine rd_glst (by first | assumption | exact upd_same) rfl ?_)
  | ((with_reducible show rIsi _ _ _ _); first | refine rd_isi (b := true) (.ty _) (.base (by first | exact .int _ | exact .str _ | exact .bl _ | exact .non | exact .tup (by assumption) | exact .lst (by assumption))) (kit_ty (by decide +kernel)) ?_ | refine rd_isi (b := false) (.ty _) (.base (by first | exact .int _ | exact .str _ | exact .bl _ | exact .non | exact .tup (by assumption) | exact .lst (by assumption))) (kit_ty (by decide +kernel)) ?_)
  | with_reducible refine rd_fld ?_
  | with_reducible refine rd_sfld ?_
  | with_reducible refine rd_meth ?_
  | with_reducible refine rd_make ?_
  | with_reducible refine rd_makeK ?_
  | with_reducible refine rd_U ?_
  | with_reducible refine rd_makeKS ?_
  | with_reducible refine rd_callN ?_
  | with_reducible refine rd_rs ?_
  | with_reducible refine rd_rf ?_
  | with_reducible refine rd_star ?_
  | with_reducible refine rd_callS ?_
  | with_reducible refine rd_for ?_
  | with_reducible refine rd_lc ?_
  | with_reducible refine rd_ilist ?_
  | with_reducible refine rd_itup ?_
  | with_reducible refine rd_irng ?_
  | with_reducible refine rd_izipS ?_
  | with_reducible refine rd_ienum ?_
  | with_reducible refine rd_ienT ?_
  | with_reducible refine rd_next ?_
  | with_reducible refine rd_eq rfl ?_
  | with_reducible refine rd_ne rfl ?_
  | with_reducible refine iteT ?_
  | with_reducible refine iteF ?_
  | with_reducible refine rd_ifnT ?_
  | with_reducible refine rd_ifnF ?_
  | ((with_reducible show rI (fun _ j => (0 : Int) < j) _ _ _ _ _); refine rd_mod (by omega) ?_)
  | with_reducible refine rd_new rfl ?_
  | ((with_reducible show rIxL _ _ (V.int 0) _ _); refine rd_ixL0 (by first | assumption | exact upd_same) ?_)
  | ((with_reducible show rIxL _ _ _ _ _); refine rd_ixL (by first | assumption | exact upd_same) rfl ?_)
  | ((with_reducible show rSetL _ _ _ _ _); refine rd_setL (by first | assumption | exact upd_same) rfl ?_)
  | ((with_reducible show rI CMul _ _ _ _ _); refine rd_mul (by first | exact Or.inl ⟨by omega, by omega⟩ | exact Or.inr ⟨by omega, by omega⟩) ?_)
  | ((with_reducible show tyV _ "list" _ _ ∧ _); refine rd_tyL (by first | assumption | exact upd_same) ?_)
  | ((with_reducible show rIxT _ _ (V.int 0) _ _); refine rd_ixT0 (by first | assumption | exact upd_same) ?_)
  | ((with_reducible show rIxT _ _ _ _ _); refine rd_ixT (by first | assumption | exact upd_same) rfl ?_))
local macro_rules | `(tactic| walk_at "rd") => `(tactic| (repeat (first | walk_at "rd1" | dsimp only)))
local macro_rules | `(tactic| walk_at "rds") => `(tactic| (dsimp only [cxOf, Cx.nox, Cx.wish, Cx.blk, L2.start]; walk_at "rd"))
local macro_rules | `(tactic| walk_at "rdn") => `(tactic| (repeat (first | walk_at "rdn1" | dsimp only)))
section
variable {P : Program} {w : World} {K : PySem.W.Frag} {mg : Str → Option Value} {base : Heap}

theorem rd_tif {tc : TT} {ta tb : TE} {σ : L2.St} {H : Hp} {Q : VK} (h : tc σ H fun c H1 => if c = true then ta σ H1 Q else tb σ H1 Q) : tIf tc ta tb σ H Q := h

end
end Rg

namespace Rg
open PySem PySem.Spec L2
local macro_rules | `(tactic| walk_at "rd1") => `(tactic| first
  | with_reducible refine rd_seq ?_
  | with_reducible refine rd_asg ?_
  | ((with_reducible show tVar _ _ _ _); refine rd_var rfl ?_)
  | with_reducible refine rd_c ?_
  | with_reducible refine rd_op ?_
  | with_reducible refine rd_I0 ?_
  | with_reducible refine rd_name ?_
  | with_reducible refine rd_ret ?_
  | with_reducible refine rd_ifs ?_
  | with_reducible refine rd_test ?_
  | with_reducible refine rd_tB ?_
  | with_reducible refine rd_bl ?_
  | with_reducible refine rd_drop ?_
  | with_reducible refine rd_nil ?_
  | with_reducible refine rd_cons ?_
  | with_reducible refine rd_call ?_
  | with_reducible refine rd_cb ?_
  | with_reducible refine rd_tup ?_
  | with_reducible refine rd_lst ?_
  | with_reducible refine rd_and ?_
  | with_reducible refine rd_or ?_
  | with_reducible refine rd_not ?_
  | with_reducible refine rd_andV ?_
  | with_reducible refine rd_orV ?_
  | with_reducible refine rd_notV ?_
  | with_reducible refine rd_chain ?_
  | with_reducible refine rd_un ?_
  | with_reducible refine rd_isN ?_
  | with_reducible refine rd_bm ?_
  | with_reducible refine rd_bm0 ?_
  | with_reducible refine rd_gsub ?_
  | with_reducible refine rd_sl ?_
  | with_reducible refine rd_gt ?_
  | with_reducible refine rd_yes ?_
  | with_reducible refine rd_gcons ?_
  | with_reducible refine rd_gnil ?_
  | with_reducible refine rd_part ?_
  | with_reducible refine rd_nopart ?_
  | ((with_reducible show gTup _ _ _ _ _ _ _); refine rd_gtup (by first | assumption | exact upd_same) rfl ?_)
  | ((with_reducible show gLst _ _ _ _ _ _ _); refine rd_glst (by first | assumption | exact upd_same) rfl ?_)
  | ((with_reducible show rIsi _ _ _ _); first | refine rd_isi (b := true) (.ty _) (.base (by first | exact .int _ | exact .str _ | exact .bl _ | exact .non | exact .tup (by assumption) | exact .lst (by assumption))) (kit_ty (by decide +kernel)) ?_ | refine rd_isi (b := false) (.ty _) (.base (by first | exact .int _ | exact .str _ | exact .bl _ | exact .non | exact .tup (by assumption) | exact .lst (by assumption))) (kit_ty (by decide +kernel)) ?_)
  | with_reducible refine rd_fld ?_
  | with_reducible refine rd_sfld ?_
  | with_reducible refine rd_meth ?_
  | with_reducible refine rd_make ?_
  | with_reducible refine rd_makeK ?_
  | with_reducible refine rd_U ?_
  | with_reducible refine rd_makeKS ?_
  | with_reducible refine rd_callN ?_
  | with_reducible refine rd_rs ?_
  | with_reducible refine rd_rf ?_
  | with_reducible refine rd_star ?_
  | with_reducible refine rd_callS ?_
  | with_reducible refine rd_for ?_
  | with_reducible refine rd_lc ?_
  | with_reducible refine rd_ilist ?_
  | with_reducible refine rd_itup ?_
  | with_reducible refine rd_irng ?_
  | with_reducible refine rd_izipS ?_
  | with_reducible refine rd_ienum ?_
  | with_reducible refine rd_ienT ?_
  | with_reducible refine rd_next ?_
  | with_reducible refine rd_eq rfl ?_
  | with_reducible refine rd_ne rfl ?_
  | with_reducible refine iteT ?_
  | with_reducible refine iteF ?_
  | with_reducible refine rd_ifnT ?_
  | with_reducible refine rd_ifnF ?_
  | ((with_reducible show rI (fun _ j => (0 : Int) < j) _ _ _ _ _); refine rd_mod (by omega) ?_)
  | with_reducible refine rd_new rfl ?_
  | ((with_reducible show rIxL _ _ (V.int 0) _ _); refine rd_ixL0 (by first | assumption | exact upd_same) ?_)
  | ((with_reducible show rIxL _ _ _ _ _); refine rd_ixL (by first | assumption | exact upd_same) rfl ?_)
  | ((with_reducible show rSetL _ _ _ _ _); refine rd_setL (by first | assumption | exact upd_same) rfl ?_)
  | ((with_reducible show rI CMul _ _ _ _ _); refine rd_mul (by first | exact Or.inl ⟨by omega, by omega⟩ | exact Or.inr ⟨by omega, by omega⟩) ?_)
  | ((with_reducible show tyV _ "list" _ _ ∧ _); refine rd_tyL (by first | assumption | exact upd_same) ?_)
  | ((with_reducible show rIxT _ _ (V.int 0) _ _); refine rd_ixT0 (by first | assumption | exact upd_same) ?_)
  | ((with_reducible show rIxT _ _ _ _ _); refine rd_ixT (by first | assumption | exact upd_same) rfl ?_))
local macro_rules | `(tactic| walk_at "rdn1") => `(tactic| first
  | with_reducible refine rd_seq ?_
  | with_reducible refine rd_asg ?_
  | ((with_reducible show tVar _ _ _ _); refine rd_var rfl ?_)
  | with_reducible refine rd_c ?_
  | with_reducible refine rd_op ?_
  | with_reducible refine rd_I0 ?_
  | with_reducible refine rd_name ?_
  | with_reducible refine rd_ret ?_
  | with_reducible refine rd_ifs ?_
  | with_reducible refine rd_test ?_
  | with_reducible refine rd_tB ?_
  | with_reducible refine rd_bl ?_
  | with_reducible refine rd_drop ?_
  | with_reducible refine rd_nil ?_
  | with_reducible refine rd_cons ?_
  | with_reducible refine rd_call ?_
  | with_reducible refine rd_cb ?_
  | with_reducible refine rd_tup ?_
  | with_reducible refine rd_lst ?_
  | with_reducible refine rd_and ?_
  | with_reducible refine rd_or ?_
  | with_reducible refine rd_not ?_
  | with_reducible refine rd_notV ?_
  | with_reducible refine rd_chain ?_
  | with_reducible refine rd_un ?_
  | with_reducible refine rd_isN ?_
  | with_reducible refine rd_bm ?_
  | with_reducible refine rd_bm0 ?_
  | with_reducible refine rd_gsub ?_
  | with_reducible refine rd_sl ?_
  | with_reducible refine rd_gt ?_
  | with_reducible refine rd_yes ?_
  | with_reducible refine rd_gcons ?_
  | with_reducible refine rd_gnil ?_
  | with_reducible refine rd_part ?_
  | with_reducible refine rd_nopart ?_
  | ((with_reducible show gTup _ _ _ _ _ _ _); refine rd_gtup (by first | assumption | exact upd_same) rfl ?_)
  | ((with_reducible show gLst _ _ _ _ _ _ _); refine rd_glst (by first | assumption | exact upd_same) rfl ?_)
  | ((with_reducible show rIsi _ _ _ _); first | refine rd_isi (b := true) (.ty _) (.base (by first | exact .int _ | exact .str _ | exact .bl _ | exact .non | exact .tup (by assumption) | exact .lst (by assumption))) (kit_ty (by decide +kernel)) ?_ | refine rd_isi (b := false) (.ty _) (.base (by first | exact .int _ | exact .str _ | exact .bl _ | exact .non | exact .tup (by assumption) | exact .lst (by assumption))) (kit_ty (by decide +kernel)) ?_)
  | with_reducible refine rd_fld ?_
  | with_reducible refine rd_sfld ?_
  | with_reducible refine rd_meth ?_
  | with_reducible refine rd_make ?_
  | with_reducible refine rd_makeK ?_
  | with_reducible refine rd_U ?_
  | with_reducible refine rd_makeKS ?_
  | with_reducible refine rd_callN ?_
  | with_reducible refine rd_rs ?_
  | with_reducible refine rd_rf ?_
  | with_reducible refine rd_star ?_
  | with_reducible refine rd_callS ?_
  | with_reducible refine rd_for ?_
  | with_reducible refine rd_lc ?_
  | with_reducible refine rd_ilist ?_
  | with_reducible refine rd_itup ?_
  | with_reducible refine rd_irng ?_
  | with_reducible refine rd_izipS ?_
  | with_reducible refine rd_ienum ?_
  | with_reducible refine rd_ienT ?_
  | with_reducible refine rd_next ?_
  | with_reducible refine rd_eq rfl ?_
  | with_reducible refine rd_ne rfl ?_
  | with_reducible refine iteT ?_
  | with_reducible refine iteF ?_
  | with_reducible refine rd_ifnT ?_
  | with_reducible refine rd_ifnF ?_
  | ((with_reducible show rI (fun _ j => (0 : Int) < j) _ _ _ _ _); refine rd_mod (by omega) ?_)
  | with_reducible refine rd_new rfl ?_
  | ((with_reducible show rIxL _ _ (V.int 0) _ _); refine rd_ixL0 (by first | assumption | exact upd_same) ?_)
  | ((with_reducible show rIxL _ _ _ _ _); refine rd_ixL (by first | assumption | exact upd_same) rfl ?_)
  | ((with_reducible show rSetL _ _ _ _ _); refine rd_setL (by first | assumption | exact upd_same) rfl ?_)
  | ((with_reducible show rI CMul _ _ _ _ _); refine rd_mul (by first | exact Or.inl ⟨by omega, by omega⟩ | exact Or.inr ⟨by omega, by omega⟩) ?_)
  | ((with_reducible show tyV _ "list" _ _ ∧ _); refine rd_tyL (by first | assumption | exact upd_same) ?_)
  | ((with_reducible show rIxT _ _ (V.int 0) _ _); refine rd_ixT0 (by first | assumption | exact upd_same) ?_)
  | ((with_reducible show rIxT _ _ _ _ _); refine rd_ixT (by first | assumption | exact upd_same) rfl ?_))
local macro_rules | `(tactic| walk_at "rd") => `(tactic| (repeat (first | walk_at "rd1" | dsimp only)))
local macro_rules | `(tactic| walk_at "rds") => `(tactic| (dsimp only [cxOf, Cx.nox, Cx.wish, Cx.blk, L2.start]; walk_at "rd"))
local macro_rules | `(tactic| walk_at "rdn") => `(tactic| (repeat (first | walk_at "rdn1" | dsimp only)))
section
variable {P : Program} {w : World} {K : PySem.W.Frag} {mg : Str → Option Value} {base : Heap}

theorem u65L {k : Nat} {A : Around} (r : Room k A) : A.units + 65 < cLine := by have := r.un; omega
/-- a number from 0 on that a text writes -/
def whR (z : Str) : Option Int := if isNumB z 60 = true then intText? z else none
def optI : Option Int → V
  | none => .non
  | some n => .int n
theorem strOk7 {z : Str} (h : ∀ c ∈ z.cps.toList, c < 128) : (PyData.str z).canLay0 = true := by
  show (z.cps.all (· < 0x110000)) = true
  rw [← Array.all_toList, List.all_eq_true]
  exact fun c hc => decide_eq_true (Nat.lt_trans (h c hc) (by decide))
def spWhole : Sp := fun vs H Q _ => ∃ z : Str, vs = [.str z] ∧ T7 z 100000 ∧ ∀ H', Same H H' → Q (optI (whR z)) H'
theorem ok_whole_of {f : Addr} {fd : FuncData} (B : BT mg) (F : Fun K "_law_whole_of" "_law_whole_of" s_law_whole_of f fd) (hm : mg "_law_whole_of" = some (.ref f)) : Cal P w K mg base "_law_whole_of" 1 ["word"] spWhole := by
  refine ⟨f, fd, hm, F.kp, F.binds (ps := ["word"]) fun _ _ _ _ _ _ us hl => match us, hl with | [_], _ => rfl, ?_⟩
  refine F.ok sc_law_whole_of (fun vs H Q E h => ?_) (fun cdv A outer s H vs Q E hr h => ?_)
  · obtain ⟨z, rfl, _⟩ := h
    rfl
  · obtain ⟨z, rfl, h7, k⟩ := h
    refine ⟨_, (pss_cons (ps_if (PW.pt (pw_or (pt_cmpR op_eq (pv 0) pe_str (nomark _)) (pw_or (pt_cmpR op_gt (pe_callB call_len_str rfl B.g_len PySem.boot_len (pa_cons (pv 0) pa_nil)) pe_int (nomark _)) (pw_or1 (pt_cmpR (r := rNeD K) (op_neD hr.units) (pe_lc (own := [("sign", 1)]) (g := gName 1) rfl sc_law_whole_of.nd (pi_str (pv 0)) (blkOk_by (own := [("sign", 1)]) (N := ["word", "sign"]) (sc := defScope s_law_whole_of) (by decide +kernel)) (fun _ _ _ _ _ => (pg_name (i := 1) sc_law_whole_of.nd rfl (by first | exact Or.inl rfl | exact Or.inr rfl))) (fun _ _ _ _ _ => (pts_one (pt_cmpR op_notIn_sign (pv 1) pe_str rfl))) (fun _ _ _ _ _ => (pv 1))) (pe_lst pa_nil) (nomark _)))))) (pss_one (ps_ret pe_non)) pss_nil)
 (pss_one (ps_ret (pe_ifExp (PW.pt (pw_or (pt_cmpR op_ne (pe_ix (r := rIxS) ix_str (pv 0) pe_int (fun _ _ => rfl)) pe_str (nomark _)) (pw_or1 (pt_cmpR op_eq (pv 0) pe_str (nomark _))))) (pe_callTy call_int_sK rfl B.g_int (by decide +kernel) (pa_cons (pv 0) pa_nil)) pe_non)))), ?_⟩
    have hl := h7.2
    walk_at "rds"
    have hsl : z.length ≤ sizeLine := by rw [sizeLine_eq]; omega
    have hsz : z.cps.size = z.cps.toList.length := by simp
    have hzl : z.length = z.cps.toList.length := by rw [← hsz]; rfl
    refine rd_ifd (fun h => ?_) (fun h => ?_)
    · have hz : z = "" := by injection h
      walk_at "rd"
      have e : whR z = none := by rw [hz]; decide +kernel
      rw [e] at k
      exact k _ (Same.refl _)
    have hne : z ≠ "" := fun q => h (by rw [q])
    walk_at "rd"
    refine ⟨z, rfl, hsl, ?_⟩
    walk_at "rd"
    refine rd_ifd (fun h6 => ?_) (fun h6 => ?_)
    · walk_at "rd"
      have e : whR z = none := by
        unfold whR isNumB
        rw [decide_eq_false (show ¬ (z.length : Int) ≤ 60 by omega), Bool.and_false, Bool.false_and, if_neg (by decide)]
      rw [e] at k
      exact k _ (Same.refl _)
    walk_at "rd"
    refine rd_iS ?_
    walk_at "rd"
    refine ⟨z, rfl, fun D hD => ?_⟩
    refine lc_it (walk_str (z := z)) (CompFl D H z.cps.toList (fun c => !digB c) (fun c => PyData.str ⟨#[c]⟩)) (CompFl.start hD) (fun _ _ _ _ => trivial) ?_ ?_
    · rintro i y Ha Hb hi pc ⟨rfl, c, hc, rfl⟩
      have hc' : z.cps.toList[i]? = some c := by rw [Array.getElem?_toList]; exact hc
      walk_at "rd"
      refine ⟨rfl, ?_⟩
      walk_at "rd"
      refine ⟨c, _, rfl, rfl, _, rfl, ?_⟩
      refine rd_ifn (fun ht => ?_) (fun ht => ?_)
      · exact pc.skip hc' (by show (!digB c) = false; unfold digB; rw [ht]; rfl) (Same.refl _)
      · walk_at "rd"
        exact pc.step hD (by rw [hsz] at hi; omega) hc' (by show (!digB c) = true; unfold digB; rw [ht]; rfl) (Same.refl _) (.str _)
    rintro Ha ⟨ws, h1, h2, s1⟩
    have hsz2 : z.cps.toList.take z.cps.size = z.cps.toList := by rw [hsz, List.take_length]
    rw [hsz2] at h2
    generalize hfl : z.cps.toList.filter (fun c => !digB c) = fl at h2
    have hll : fl.length ≤ 60 := by
      rw [← hfl]
      have := List.length_filter_le (fun c => !digB c) z.cps.toList
      omega
    have hok : okN 3 (.list (fl.map fun c => PyData.str ⟨#[c]⟩)) := ⟨by rw [List.length_map]; omega, fun d hd => by
      obtain ⟨c, _, rfl⟩ := List.mem_map.mp hd
      exact trivial⟩
    have hcl : (PyData.list (fl.map fun c => PyData.str ⟨#[c]⟩)).canLay0 = true := lay_map fl fun c hc => strOk7 fun x hx => by
      have : x = c := by simpa using hx
      rw [this]
      exact h7.1 c (by rw [← hfl] at hc; exact (List.mem_filter.mp hc).1)
    have hshp := shaped_of hcl hok (by decide)
    walk_at "rd"
    intro p hp
    have s2 := s1.trans (same_upd (o := .lst []) hp)
    refine rd_neD (d := .list (fl.map fun c => PyData.str ⟨#[c]⟩)) (e := .list []) (.lst (SqL.of ((same_upd hp) _ _ h1)) (h2.keep (Tk.of (same_upd hp))).dp) (.lst (SqL.of upd_same) .nil) hshp (by decide +kernel) ?_
    refine ⟨_, rfl, ?_⟩
    have hall : fl = [] ↔ z.cps.toList.all digB = true := by
      rw [← hfl, List.filter_eq_nil_iff, List.all_eq_true]
      refine forall_congr' fun c => forall_congr' fun _ => ?_
      cases digB c <;> simp
    by_cases hfe : fl = []
    case neg =>
      rw [show PyData.eqv (.list (fl.map fun c => PyData.str ⟨#[c]⟩)) (.list []) = false from by cases fl with | nil => exact absurd rfl hfe | cons => rfl]
      walk_at "rd"
      have e : whR z = none := by
        unfold whR isNumB
        have : z.cps.toList.all digB = false := by
          cases hq : z.cps.toList.all digB with
          | false => rfl
          | true => exact absurd (hall.mpr hq) hfe
        rw [this, Bool.false_and, Bool.and_false, if_neg (by decide)]
      rw [e] at k
      exact k _ s2
    have hA := hall.mp hfe
    subst hfe
    rw [show PyData.eqv (.list (([] : List Nat).map fun c => PyData.str ⟨#[c]⟩)) (.list []) = true from rfl]
    walk_at "rd"
    have hpos : 1 ≤ z.length := by
      rcases Nat.eq_zero_or_pos z.length with q | q
      · exact absurd (TL.ext_tl (by
          have : (TL.tl z).length = 0 := by rw [← TL.len_tl, q]
          rw [List.length_eq_zero_iff.mp this]
          decide +kernel)) hne
      · exact q
    have hN : isNumB z 60 = (decide (z = "0") || !decide (z.cps.toList.head? = some 48)) := by
      unfold isNumB
      rw [decide_eq_true (show 1 ≤ (z.length : Int) by omega), decide_eq_true (show (z.length : Int) ≤ 60 by omega), hA, Bool.true_and, Bool.true_and, Bool.true_and]
    cases hcs : z.cps.toList with
    | nil => rw [hcs] at hzl; simp at hzl; omega
    | cons c0 cr =>
    rw [hcs] at hN
    refine rd_tif ?_
    walk_at "rd"
    refine ⟨z, 0, c0, rfl, rfl, hsl, by rw [hcs]; exact at_zero, ?_⟩
    walk_at "rd"
    have yes : isNumB z 60 = true → ∃ n, intText? z = some n ∧ whR z = some n := fun h => by
      have hd : PySem.NumText.AllDigits z.cps.toList := fun c hc => digB_to (List.all_eq_true.mp hA c hc)
      have e := intText_digits hd (by rw [hcs]; exact fun h => nomatch h) (by omega)
      exact ⟨_, e, by unfold whR; rw [if_pos h]; exact e⟩
    have no : isNumB z 60 = false → whR z = none := fun h => by unfold whR; rw [h, if_neg (by decide)]
    have h48 : (V.str ⟨#[c0]⟩ = V.str "0") ↔ c0 = 48 := ⟨fun q => by injection q with q; exact sgn_eq.mp (q.trans (by decide +kernel : ("0" : Str) = ⟨#[48]⟩)), fun q => by rw [q]; exact congrArg V.str (by decide +kernel)⟩
    have hh : (List.cons c0 cr).head? = some 48 ↔ c0 = 48 := ⟨fun q => by injection q, fun q => by rw [q]; rfl⟩
    refine rd_ifn (fun hq => ?_) (fun hq => ?_)
    · have h0 : c0 = 48 := h48.mp (of_decide_eq_true hq)
      walk_at "rd"
      refine rd_ifd (fun hz => ?_) (fun hz => ?_)
      · have hz0 : z = "0" := by injection hz
        obtain ⟨n, e1, e2⟩ := yes (by rw [hN, decide_eq_true hz0]; rfl)
        rw [e2] at k
        walk_at "rd"
        exact ⟨z, n, rfl, e1, by omega, k _ s2⟩
      · rw [no (by rw [hN, decide_eq_false (fun q => hz (by rw [q])), decide_eq_true (hh.mpr h0)]; rfl)] at k
        walk_at "rd"
        exact k _ s2
    · have h0 : c0 ≠ 48 := fun q => absurd (h48.mpr q) (of_decide_eq_false hq)
      obtain ⟨n, e1, e2⟩ := yes (by rw [hN, decide_eq_false (fun q => h0 (hh.mp q))]; simp)
      rw [e2] at k
      walk_at "rd"
      exact ⟨z, n, rfl, e1, by omega, k _ s2⟩
/-- a text without its first sign -/
theorem cut1 {z : Str} {c : Nat} {cs : List Nat} (h : z.cps.toList = c :: cs) : cutS z none (some 1) = ⟨#[c]⟩ ∧ TL.tl (cutS z (some 1) none) = cs := by
  have hl : z.length = cs.length + 1 := by rw [TL.len_tl]; show z.cps.toList.length = _; rw [h]; rfl
  constructor
  · unfold cutS
    rw [h, HT.sIx_none, show (HT.sIx z.length z.length (some 1)) = min 1 z.length from HT.sIx_nat z.length z.length 1, hl]
    have : min 1 (cs.length + 1) - 0 = 1 := by omega
    rw [this]
    rfl
  · show (((z.cps.toList.drop (HT.sIx z.length 0 (some 1))).take (HT.sIx z.length z.length none - HT.sIx z.length 0 (some 1))).toArray).toList = cs
    rw [h, HT.sIx_none, show (HT.sIx z.length 0 (some 1)) = min 1 z.length from HT.sIx_nat z.length 0 1, hl]
    have : min 1 (cs.length + 1) = 1 := by omega
    rw [this]
    simp
theorem cut1_nil {z : Str} (h : z.cps.toList = []) : cutS z none (some 1) = "" := by
  unfold cutS
  rw [h]
  simp
  rfl
/-- the number that a text writes, by its sign -/
theorem numR_no {z : Str} (h : (TL.tl z).head? ≠ some 45) : numR z = whR z := by
  unfold numR whR
  have hz : z ≠ "-0" := fun q => h (by rw [q]; decide +kernel)
  rw [if_neg hz, rp_no h]
theorem numR_yes {z y : Str} (h : TL.tl z = 45 :: TL.tl y) : numR z = (match whR y with | none => none | some n => if n = 0 then none else some (-n)) := by
  have e : Txt.removeprefix z "-" = y := TL.ext_tl (rp_yes h)
  unfold numR whR
  rw [e]
  have hz0 : z = "-0" ↔ y = "0" := by
    have e0 : TL.tl ("-0" : Str) = 45 :: TL.tl ("0" : Str) := by decide +kernel
    constructor
    · intro q
      rw [q, e0] at h
      injection h with _ q2
      exact TL.ext_tl q2.symm
    · intro q
      refine TL.ext_tl ?_
      rw [h, e0, q]
  cases hb : isNumB y 60 with
  | false =>
    rw [if_neg (show ¬ false = true by decide), if_neg (show ¬ false = true by decide)]
    by_cases q : z = "-0"
    · rw [if_pos q]
    · rw [if_neg q]
  | true =>
    have hb2 := hb
    unfold isNumB at hb2
    simp only [Bool.and_eq_true, decide_eq_true_eq, Bool.or_eq_true] at hb2
    obtain ⟨⟨l1, l2⟩, hA, h0⟩ := hb2
    have hd : PySem.NumText.AllDigits (TL.tl y) := fun c hc => digB_to (List.all_eq_true.mp hA c hc)
    have hn : TL.tl y ≠ [] := fun e => by
      have : y.length = 0 := by rw [TL.len_tl, e]; rfl
      omega
    have ly := TL.len_tl y
    have e1 := intText_digits (x := y) hd hn (by omega)
    have e2 := intText_neg (x := z) h hd hn (by rw [TL.len_tl, h, List.length_cons]; omega)
    rw [if_pos rfl, if_pos rfl, e1, e2]
    by_cases q : z = "-0"
    · rw [if_pos q]
      have hy := hz0.mp q
      have : PySem.NumText.digitsVal y.cps.toList = 0 := by rw [hy]; decide +kernel
      rw [this]
      rfl
    · rw [if_neg q]
      have hy : y ≠ "0" := fun q2 => q (hz0.mpr q2)
      rcases h0 with h0 | h0
      · exact absurd h0 hy
      · cases hc : y.cps.toList with
        | nil => exact absurd hc hn
        | cons c r =>
          rw [hc] at h0
          have hc48 : c ≠ 48 := fun q2 => by rw [q2] at h0; simp at h0
          have hcd := hd c (by show c ∈ y.cps.toList; rw [hc]; exact List.mem_cons_self)
          have hp := PySem.NumText.digitsVal_pos (c := c) (cs := r) (by omega)
          have hcl : TL.tl y = c :: r := hc
          rw [hcl]
          show some _ = if ((PySem.NumText.digitsVal (c :: r) : Nat) : Int) = 0 then none else some (-((PySem.NumText.digitsVal (c :: r) : Nat) : Int))
          rw [if_neg (by omega)]
def spNumL : Sp := fun vs H Q _ => ∃ z : Str, vs = [.str z] ∧ T7 z 100000 ∧ ∀ H', Same H H' → Q (optI (numR z)) H'
theorem ok_number_ofL {f : Addr} {fd : FuncData} (B : BT mg) (F : Fun K "_law_number_of" "_law_number_of" s_law_number_of f fd) (hm : mg "_law_number_of" = some (.ref f)) (C_law_whole_of : Cal P w K mg base "_law_whole_of" 1 ["word"] spWhole) : Cal P w K mg base "_law_number_of" 2 ["word"] spNumL := by
  refine ⟨f, fd, hm, F.kp, F.binds (ps := ["word"]) fun _ _ _ _ _ _ us hl => match us, hl with | [_], _ => rfl, ?_⟩
  refine F.ok sc_law_number_of (fun vs H Q E h => ?_) (fun cdv A outer s H vs Q E hr h => ?_)
  · obtain ⟨z, rfl, _⟩ := h
    rfl
  · obtain ⟨z, rfl, h7, k⟩ := h
    refine ⟨_, (pss_cons (ps_if (pt_cmpR op_ne (pe_slice (r := rSlS) sl_str (pv 0) po_none (po_some pe_int)) pe_str (nomark _)) (pss_one (ps_ret (pe_cal C_law_whole_of (hr.mono (by omega)) rfl (pa_cons (pv 0) pa_nil)))) pss_nil)
 (pss_cons (ps_set (i := 1) sc_law_number_of.nd rfl (Or.inl rfl) (pe_cal C_law_whole_of (hr.mono (by omega)) rfl (pa_cons (pe_slice (r := rSlS) sl_str (pv 0) (po_some pe_int) po_none) pa_nil)))
 (pss_one (ps_ret (pe_ifExp (PW.pt (pw_or (pt_cmpR op_isN (pv 1) pe_non (nomark _)) (pw_or1 (pt_cmpR op_eq (pv 1) pe_int (nomark _))))) pe_non (pe_op op_sub pe_int (pv 1))))))), ?_⟩
    have hsl := h7.line (by decide)
    walk_at "rds"
    refine ⟨1, rfl, z, rfl, hsl, ?_⟩
    walk_at "rd"
    by_cases hz : (TL.tl z).head? = some 45
    · obtain ⟨cs, hcs⟩ : ∃ cs, z.cps.toList = 45 :: cs := by
        have hz : z.cps.toList.head? = some 45 := hz
        cases e : z.cps.toList with
        | nil => rw [e] at hz; cases hz
        | cons c r => rw [e] at hz; injection hz with hz; rw [hz]; exact ⟨r, rfl⟩
      obtain ⟨e1, e2⟩ := cut1 hcs
      rw [e1]
      rw [show decide (V.str ⟨#[45]⟩ = V.str "-") = true from decide_eq_true (congrArg V.str (by decide +kernel))]
      walk_at "rd"
      refine ⟨1, rfl, z, rfl, hsl, ?_⟩
      walk_at "rd"
      rw [numR_yes (y := cutS z (some 1) none) (by rw [e2]; exact hcs)] at k
      refine ⟨_, rfl, h7.cut _ _, fun H1 s1 => ?_⟩
      cases hw : whR (cutS z (some 1) none) with
      | none =>
        rw [hw] at k
        walk_at "rd"
        refine rd_tif ?_
        walk_at "rd"
        refine ⟨rfl, ?_⟩
        walk_at "rd"
        refine rd_ifT rfl ?_
        walk_at "rd"
        exact k _ s1
      | some n =>
        rw [hw] at k
        walk_at "rd"
        refine rd_tif ?_
        walk_at "rd"
        refine ⟨rfl, ?_⟩
        walk_at "rd"
        refine rd_ifF (fun h => nomatch h) ?_
        walk_at "rd"
        refine rd_ifd (fun h => ?_) (fun h => ?_)
        · have hn : n = 0 := by injection h
          walk_at "rd"
          have k : Q (optI (if n = 0 then none else some (-n))) H1 := k _ s1
          rw [if_pos hn] at k
          exact k
        · have hn : n ≠ 0 := fun q => h (by rw [q]; rfl)
          walk_at "rd"
          have k : Q (optI (if n = 0 then none else some (-n))) H1 := k _ s1
          rw [if_neg hn] at k
          refine ⟨0, n, rfl, rfl, ?_⟩
          show Q (.int (0 - n)) H1
          rw [Int.zero_sub]
          exact k
    · have hne : cutS z none (some 1) ≠ "-" := fun q => by
        cases e : z.cps.toList with
        | nil =>
          rw [cut1_nil e] at q
          exact absurd q (by decide +kernel)
        | cons c r =>
          rw [(cut1 e).1] at q
          have hc : c = 45 := sgn_eq.mp (q.trans (by decide +kernel : ("-" : Str) = ⟨#[45]⟩))
          exact hz (by show z.cps.toList.head? = _; rw [e, hc]; rfl)
      rw [decide_eq_false (show ¬ V.str (cutS z none (some 1)) = V.str "-" from fun q => hne (by injection q))]
      walk_at "rd"
      rw [numR_no hz] at k
      exact ⟨z, rfl, h7, k⟩
/-- the words of a row, and how many numbers each has -/
def manyL : List (Key × V) := rowForms.map fun p => (.inr p.1, .int (p.2.length : Int))
theorem rd_dupd {td ty : TE} {σ : L2.St} {H : Hp} {Q : VK} (h : td σ H fun x H1 => ∃ a, x = .ref a ∧ IsD H1 a ∧ ty σ H1 fun y H2 => ∃ (b : Addr) (kvs more : List (Key × V)), y = .ref b ∧ a ≠ b ∧ H2 a = some (.dK kvs) ∧ H2 b = some (.dK more) ∧ kvs.length + more.length ≤ 1000 ∧ Q .non (upd H2 a (.dK (L2.mergeK kvs more)))) : tDUpd td ty σ H Q := h
theorem rd_dget2 {td ty tx : TE} {σ : L2.St} {H : Hp} {Q : VK} (h : td σ H fun x H1 => ∃ a, x = .ref a ∧ IsD H1 a ∧ ty σ H1 fun y H2 => tx σ H2 fun z H3 => ∃ o, DGet H3 a y o ∧ Q (o.getD z) H3) : tDGet2 td ty tx σ H Q := h
theorem rd_pC {k v : V} {r : List (TE × TE)} {σ : L2.St} {H : Hp} {Q : List (V × V) → Hp → Prop} (h : tPairs r σ H fun ps H3 => Q ((k, v) :: ps) H3) : tPairs ((tC k, tC v) :: r) σ H Q := h
theorem rd_pN {σ : L2.St} {H : Hp} {Q : List (V × V) → Hp → Prop} (h : Q [] H) : tPairs [] σ H Q := h
def many1 : List (Key × V) := [(.inr "set", .int 1), (.inr "add", .int 1), (.inr "load", .int 2), (.inr "store", .int 2), (.inr "fetch", .int 3), (.inr "keep", .int 3), (.inr "aim", .int 3), (.inr "move", .int 3), (.inr "zero", .int 1), (.inr "go", .int 1)]
def many2 : List (Key × V) := [(.inr "call", .int 1), (.inr "return", .int 0)]
theorem many_all : L2.mergeK (L2.mergeK [] many1) (L2.mergeK [] many2) = manyL := by rfl
theorem val_many (w : Str) : valV manyL (.inr w) = (formOf w).map fun l => V.int (l.length : Int) := by
  have key : ∀ l : List (Str × Str), valV (l.map fun p => ((.inr p.1, .int (p.2.length : Int)) : Key × V)) (.inr w) = (l.lookup w).map fun l => V.int (l.length : Int) := by
    intro l
    induction l with
    | nil => rfl
    | cons p r ih =>
      rw [List.map_cons, List.lookup_cons]
      by_cases h : p.1 = w
      · rw [valV_pos (by rw [h]), h, show (w == w) = true from beq_self_eq_true w]
        rfl
      · rw [valV_neg (fun q => h (Sum.inr.inj q)), ih, show (w == p.1) = false from by simpa using fun q => h q.symm]
  exact key rowForms
def optR : Option Rw → PyData
  | none => .none
  | some r => r.d
theorem CompL.stepB {β : Type} {D : Addr} {H1 H2 H4 : Hp} {xs : List β} {f : β → V} {i : Nat} {b : β} {y : V} (h : CompL D H1 xs f i H2) (hD : H1 D = none) (hi : i ≤ 200000) (hb : xs[i]? = some b) (k : Same H2 H4) (e : y = f b) :
    ∃ acc, H4 D = some (.lst acc) ∧ acc.length < sizeLine ∧ CompL D H1 xs f (i + 1) (upd H4 D (.lst (acc ++ [y]))) := by
  obtain ⟨h1, s1⟩ := h
  refine ⟨_, k _ _ h1, ?_, ?_, fun c o q => ?_⟩
  · rw [List.length_map, List.length_take, sizeLine_eq]
    omega
  · rw [upd_same, take_snoc hb, List.map_append, e]
    rfl
  · rw [upd_ne (ne_of_none q hD)]
    exact k _ _ (s1 _ _ q)
theorem optI_flat (ps : List Str) : (ps.map fun p => optI (numR p)).all flatV = true := by
  rw [List.all_map, List.all_eq_true]
  intro p _
  show flatV (optI (numR p)) = true
  cases numR p <;> rfl
theorem inV_none (ps : List Str) : inV .non (ps.map fun p => optI (numR p)) = decide (ps.mapM numR = none) := by
  induction ps with
  | nil => rfl
  | cons p r ih =>
    rw [List.map_cons, List.mapM_cons]
    cases h : numR p with
    | none => rfl
    | some n =>
      have e : inV .non (optI (some n) :: r.map fun p => optI (numR p)) = inV .non (r.map fun p => optI (numR p)) := by
        unfold inV
        rw [List.any_cons]
        rfl
      rw [e, ih]
      cases h2 : r.mapM numR with
      | none => rfl
      | some ns => rfl
theorem optI_all {ps : List Str} {ns : List Int} (h : ps.mapM numR = some ns) : (ps.map fun p => optI (numR p)) = ns.map V.int := by
  induction ps generalizing ns with
  | nil =>
    injection h with h
    subst h
    rfl
  | cons p r ih =>
    rw [List.mapM_cons] at h
    cases hp : numR p with
    | none => rw [hp] at h; cases h
    | some n =>
      rw [hp] at h
      cases hr : r.mapM numR with
      | none => rw [hr] at h; cases h
      | some ms =>
        rw [hr] at h
        have h : some (n :: ms) = some ns := h
        injection h with h
        subst h
        rw [List.map_cons, List.map_cons, ih hr, hp]
        rfl
def spRowL : Sp := fun vs H Q _ => ∃ z : Str, vs = [.str z] ∧ T7 z 100000 ∧ (∀ v H', Rp H' v (optR (rowRd z)) → Same H H' → Q v H')
theorem ok_row_ofL {f : Addr} {fd : FuncData} (B : BT mg) (F : Fun K "_law_row_of" "_law_row_of" s_law_row_of f fd) (hm : mg "_law_row_of" = some (.ref f)) (C_law_number_of : Cal P w K mg base "_law_number_of" 2 ["word"] spNumL) : Cal P w K mg base "_law_row_of" 3 ["text"] spRowL := by
  refine ⟨f, fd, hm, F.kp, F.binds (ps := ["text"]) fun _ _ _ _ _ _ us hl => match us, hl with | [_], _ => rfl, ?_⟩
  refine F.ok sc_law_row_of (fun vs H Q E h => ?_) (fun cdv A outer s H vs Q E hr h => ?_)
  · obtain ⟨z, rfl, _⟩ := h
    rfl
  · obtain ⟨z, rfl, h7, k⟩ := h
    refine ⟨_, (pss_cons (ps_set (i := 1) sc_law_row_of.nd rfl (Or.inl rfl) (pe_disp (pps_cons pe_str pe_int (pps_cons pe_str pe_int (pps_cons pe_str pe_int (pps_cons pe_str pe_int (pps_cons pe_str pe_int (pps_cons pe_str pe_int (pps_cons pe_str pe_int (pps_cons pe_str pe_int (pps_cons pe_str pe_int (pps_cons pe_str pe_int pps_nil)))))))))) rfl rfl (by simp) (by decide)))
 (pss_cons (ps_expr (pe_dupd (pv 1) (pe_disp (pps_cons pe_str pe_int (pps_cons pe_str pe_int pps_nil)) rfl rfl (by simp) (by decide)) ⟨rfl, rfl, rfl, rfl⟩))
 (pss_cons (ps_set (i := 2) sc_law_row_of.nd rfl (Or.inl rfl) (pe_split (pv 0) pe_str))
 (pss_cons (ps_setLc (i := 3) (own := [("word", 4)]) (g := gName 4) (tt := tYes) rfl sc_law_row_of.nd rfl rfl (sw_true rfl rfl rfl (by decide +kernel)) (pi_listK (K := K) (pe_slice (r := rSlL K) sl_list (pv 2) (po_some pe_int) po_none)) (blkOk_by (own := [("word", 4)]) (N := ["text", "many", "words", "numbers", "word"]) (sc := defScope s_law_row_of) (by decide +kernel)) (fun _ _ _ _ _ => (pg_name (i := 4) sc_law_row_of.nd rfl (by first | exact Or.inl rfl | exact Or.inr rfl))) (fun _ _ _ _ _ => pts_nil) (fun _ _ _ _ _ => (pe_cal C_law_number_of (hr.mono (by omega)) rfl (pa_cons (pv 4) pa_nil))))
 (pss_cons (ps_if (PW.pt (pw_or (pt_cmpR op_ne (pe_dget2 (hu_of hr) (pv 1) (pe_ix (r := rIxL K) ix_list (pv 2) pe_int (fun _ _ => rfl)) (pe_un un_neg pe_int) ⟨rfl, rfl, rfl, rfl⟩) (pe_callB (cr_lenS (K := K)) rfl B.g_len PySem.boot_len (pa_cons (pv 3) pa_nil)) (nomark _)) (pw_or1 (pt_cmpR (r := rIn K false) op_in_seq pe_non (pv 3) (by rfl))))) (pss_one (ps_ret pe_non)) pss_nil)
 (pss_one (ps_ret (pe_callTy (cr_tupOf (K := K)) rfl B.g_tuple (by decide +kernel) (pa_cons (pe_op op_cat (pe_slice (r := rSlL K) sl_list (pv 2) po_none (po_some pe_int)) (pv 3)) pa_nil))))))))), ?_⟩
    have hsl := h7.line (by decide)
    walk_at "rds"
    intro p hp
    walk_at "rd"
    repeat refine rd_pC ?_
    refine rd_pN ?_
    refine ⟨upd_same, many1, rfl, by decide, ?_⟩
    have e0 : upd (upd H p (.dK [])) p (.dK (L2.mergeK [] many1)) = upd H p (.dK (L2.mergeK [] many1)) := upd_upd
    rw [e0]
    have s1 := same_upd (o := .dK (L2.mergeK [] many1)) hp
    walk_at "rd"
    refine rd_dupd ?_
    walk_at "rd"
    refine ⟨p, rfl, .inl ⟨_, .inl upd_same⟩, fun q hq => ?_⟩
    repeat refine rd_pC ?_
    refine rd_pN ?_
    refine ⟨upd_same, many2, rfl, by decide, ?_⟩
    have hpq : p ≠ q := fun e => by rw [← e, upd_same] at hq; cases hq
    refine ⟨q, _, _, rfl, hpq, (by rw [upd_ne hpq, upd_ne hpq, upd_same]), upd_same, by decide, ?_⟩
    rw [many_all]
    have sm : Same H (upd (upd (upd (upd H p (.dK (L2.mergeK [] many1))) q (.dK [])) q (.dK (L2.mergeK [] many2))) p (.dK manyL)) := fun b o e => by
      have h1 : b ≠ p := fun q => by rw [q, hp] at e; cases e
      have h2 : b ≠ q := fun z => by rw [z] at e; have := s1 _ _ e; rw [hq] at this; cases this
      rw [upd_ne h1, upd_ne h2, upd_ne h2, upd_ne h1]
      exact e
    have em : upd (upd (upd (upd H p (.dK (L2.mergeK [] many1))) q (.dK [])) q (.dK (L2.mergeK [] many2))) p (.dK manyL) p = some (.dK manyL) := upd_same
    generalize upd (upd (upd (upd H p (.dK (L2.mergeK [] many1))) q (.dK [])) q (.dK (L2.mergeK [] many2))) p (.dK manyL) = H2 at sm em
    walk_at "rd"
    have hpt := h7.part (y := " ") (by decide +kernel) (by decide +kernel)
    have hct := split_cnt z " "
    have hz5 := h7.2
    have hne := split_ne (z := z) (y := " ") (by decide +kernel) (by decide +kernel)
    refine rd_m1 ?_
    walk_at "rd"
    refine ⟨⟨_, rfl⟩, ?_⟩
    walk_at "rd"
    refine ⟨z, _, rfl, rfl, by decide +kernel, by rw [sizeLine_eq]; omega, fun p1 hp1 => ?_⟩
    unfold rowRd at k
    cases hsp : Txt.split z " " with
    | nil => exact absurd hsp hne
    | cons wd ps =>
    rw [hsp] at k hpt hct
    dsimp only at k
    have s1 := sm.trans (same_upd (o := .lst ((wd :: ps).map V.str)) hp1)
    have em1 := (same_upd (o := .lst ((wd :: ps).map V.str)) hp1) _ _ em
    have ew1 : upd H2 p1 (.lst ((wd :: ps).map V.str)) p1 = some (.lst ((wd :: ps).map V.str)) := upd_same
    generalize upd H2 p1 (.lst ((wd :: ps).map V.str)) = H3 at s1 em1 ew1
    walk_at "rd"
    refine ⟨1, rfl, ?_⟩
    refine ⟨p1, _, rfl, SqL.of ew1, fun p3 hp3 => ?_⟩
    have ec : cutV ((wd :: ps).map V.str) (some 1) none = ps.map V.str := by
      unfold cutV
      simp [HT.sIx]
      exact List.take_of_length_le (by simp)
    rw [ec]
    walk_at "rd"
    refine ⟨p3, rfl, ⟨_, SqL.of upd_same⟩, fun D hD => ?_⟩
    have s3 := same_upd (o := .lst (ps.map V.str)) hp3
    have e3 : upd H3 p3 (.lst (ps.map V.str)) p3 = some (.lst (ps.map V.str)) := upd_same
    generalize upd H3 p3 (.lst (ps.map V.str)) = H4 at s3 e3 hD
    refine lc_it (walk_list (xs := ps.map V.str)) (CompL D H4 ps (fun p => optI (numR p))) (CompL.start hD) (fun i H' _ p => SqL.of (p.2 _ _ e3)) ?_ ?_
    · rintro i y Ha Hb hi pc ⟨rfl, hy⟩
      rw [List.getElem?_map] at hy
      obtain ⟨u, hu, rfl⟩ := Option.map_eq_some_iff.mp hy
      walk_at "rd"
      refine ⟨rfl, ?_⟩
      walk_at "rd"
      refine ⟨u, rfl, hpt u (List.mem_cons_of_mem _ (List.mem_of_getElem? hu)), fun H5 s5 => ?_⟩
      exact pc.stepB hD (by simp at hi hct; omega) hu s5 rfl
    rintro H5 pc
    have he := pc.end (by rw [List.length_map])
    have s5 := (s1.trans s3).trans pc.2
    have em5 := pc.2 _ _ (s3 _ _ em1)
    have ew5 := pc.2 _ _ (s3 _ _ ew1)
    walk_at "rd"
    refine rd_dget2 ?_
    walk_at "rd"
    refine ⟨p, rfl, .inl ⟨_, .inl em5⟩, ?_⟩
    walk_at "rd"
    refine ⟨_, DGet.k (k := Sum.inr wd) em5, ?_⟩
    rw [val_many]
    walk_at "rd"
    have hlen : ((ps.map fun p => optI (numR p)).length : Int) = ps.length := by rw [List.length_map]
    cases e2 : formOf wd with
    | none =>
      rw [e2] at k
      walk_at "rd"
      refine ⟨D, _, rfl, .inl (SqL.of he), ?_⟩
      rw [hlen]
      walk_at "rd"
      rw [show decide ((Option.map (fun l : Str => V.int (l.length : Int)) none).getD (V.int (-1)) = V.int (ps.length : Int)) = false from decide_eq_false fun q => by
        have q : V.int (-1) = V.int (ps.length : Int) := q
        injection q with q
        omega]
      walk_at "rd"
      exact k _ _ .non s5
    | some l =>
      rw [e2] at k
      dsimp only at k
      have lf := form_free e2
      walk_at "rd"
      refine ⟨D, _, rfl, .inl (SqL.of he), ?_⟩
      rw [hlen]
      walk_at "rd"
      have hdl : decide ((Option.map (fun l : Str => V.int (l.length : Int)) (some l)).getD (V.int (-1)) = V.int (ps.length : Int)) = decide (ps.length = l.length) := by
        by_cases q : ps.length = l.length
        · rw [decide_eq_true q]
          exact decide_eq_true (by rw [q]; rfl)
        · rw [decide_eq_false q]
          refine decide_eq_false fun q2 => q ?_
          have q2 : V.int (l.length : Int) = V.int (ps.length : Int) := q2
          injection q2 with q2
          omega
      rw [hdl]
      by_cases hll : ps.length = l.length
      case neg =>
        rw [decide_eq_false hll]
        rw [if_neg hll] at k
        walk_at "rd"
        exact k _ _ .non s5
      rw [decide_eq_true hll]
      rw [if_pos hll] at k
      walk_at "rd"
      refine ⟨D, _, rfl, .inl (SqL.of he), rfl, optI_flat ps, ?_⟩
      rw [if_neg (by decide), inV_none]
      walk_at "rd"
      cases hm : ps.mapM numR with
      | none =>
        rw [hm] at k
        walk_at "rd"
        refine rd_ifT rfl ?_
        walk_at "rd"
        exact k _ _ .non s5
      | some ns =>
        rw [hm] at k
        walk_at "rd"
        refine rd_ifF (fun h => nomatch h) ?_
        walk_at "rd"
        refine ⟨1, rfl, ?_⟩
        refine ⟨p1, _, rfl, SqL.of ew5, fun p6 hp6 => ?_⟩
        have ec2 : cutV ((wd :: ps).map V.str) none (some 1) = [.str wd] := by
          unfold cutV
          simp [HT.sIx]
        rw [ec2]
        have lns := mapM_len hm
        walk_at "rd"
        refine ⟨p6, D, _, _, rfl, rfl, upd_same, (same_upd hp6) _ _ he, by rw [List.length_map, sizeLine_eq]; show 1 + _ ≤ _; omega, fun p7 hp7 => ?_⟩
        walk_at "rd"
        refine ⟨p7, _, rfl, .inl ⟨SqL.of upd_same, fun pt hpt => ?_⟩⟩
        refine k _ _ (.tup upd_same ?_) (((s5.trans (same_upd hp6)).trans (same_upd hp7)).trans (same_upd hpt))
        rw [optI_all hm]
        exact .cons (.str _) (.ints _)
/-- the deeds that a text writes -/
def optD : Option (List Rw) → PyData
  | none => .none
  | some rs => .list (rs.map Rw.d)
theorem rowRd_form {z : Str} {r : Rw} (h : rowRd z = some r) : RwForm r := by
  obtain ⟨w, ps, l, ns, e1, e2, e3, e4, rfl⟩ := rowRd_inv h
  exact ⟨l, e2, (show l.length = ns.length from by rw [← e3]; exact mapM_len e4)⟩
def spDeedsL : Sp := fun vs H Q _ => ∃ z : Str, vs = [.str z] ∧ T7 z 100000 ∧ (deedsR z = none → ∀ H', Same H H' → Q .non H') ∧ (∀ rs, deedsR z = some rs → ∀ (L : Addr) (us : List V) (H' : Hp), H L = none → H' L = some (.lst us) → RpAll H' us (rs.map Rw.d) → Same H H' → Q (.ref L) H')
theorem optR_any (ps : List Str) : ((ps.map fun p => optR (rowRd p)).any fun z => PyData.eqv z .none) = decide (ps.mapM rowRd = none) := by
  induction ps with
  | nil => rfl
  | cons p r ih =>
    rw [List.map_cons, List.any_cons, ih, List.mapM_cons]
    cases h : rowRd p with
    | none => rfl
    | some n =>
      have e : PyData.eqv (optR (some n)) .none = false := rfl
      rw [e, Bool.false_or]
      cases h2 : r.mapM rowRd with
      | none => rfl
      | some ns => rfl
theorem optR_all {ps : List Str} {ns : List Rw} (h : ps.mapM rowRd = some ns) : (ps.map fun p => optR (rowRd p)) = ns.map Rw.d := by
  induction ps generalizing ns with
  | nil =>
    injection h with h
    subst h
    rfl
  | cons p r ih =>
    rw [List.mapM_cons] at h
    cases hp : rowRd p with
    | none => rw [hp] at h; cases h
    | some n =>
      rw [hp] at h
      cases hr : r.mapM rowRd with
      | none => rw [hr] at h; cases h
      | some ms =>
        rw [hr] at h
        have h : some (n :: ms) = some ns := h
        injection h with h
        subst h
        rw [List.map_cons, List.map_cons, ih hr, hp]
        rfl
theorem CompR.stepB {β : Type} {D : Addr} {H1 H2 H4 : Hp} {xs : List β} {f : β → PyData} {i : Nat} {b : β} {y : V} (h : CompR D H1 xs f i H2) (hD : H1 D = none) (hi : i ≤ 200000) (hb : xs[i]? = some b) (k : Same H2 H4) (r : Rp H4 y (f b)) :
    ∃ acc, H4 D = some (.lst acc) ∧ acc.length < sizeLine ∧ CompR D H1 xs f (i + 1) (upd H4 D (.lst (acc ++ [y]))) := by
  obtain ⟨vs, h1, h2, s1⟩ := h
  have e4 := k _ _ h1
  have tk : Tk H4 (upd H4 D (.lst (vs ++ [y]))) := Tk.lst e4
  refine ⟨vs, e4, ?_, vs ++ [y], upd_same, ?_, fun c o q => ?_⟩
  · rw [h2.length, List.length_map, List.length_take, sizeLine_eq]
    omega
  · rw [take_snoc hb, List.map_append]
    exact ((h2.keep (Tk.of k)).keep tk).append (.cons (r.keep tk) .nil)
  · rw [upd_ne (ne_of_none q hD)]
    exact k _ _ (s1 _ _ q)
theorem ok_deeds_ofL {f : Addr} {fd : FuncData} (B : BT mg) (F : Fun K "_law_deeds_of" "_law_deeds_of" s_law_deeds_of f fd) (hm : mg "_law_deeds_of" = some (.ref f)) (C_law_row_of : Cal P w K mg base "_law_row_of" 3 ["text"] spRowL) : Cal P w K mg base "_law_deeds_of" 4 ["text"] spDeedsL := by
  refine ⟨f, fd, hm, F.kp, F.binds (ps := ["text"]) fun _ _ _ _ _ _ us hl => match us, hl with | [_], _ => rfl, ?_⟩
  refine F.ok sc_law_deeds_of (fun vs H Q E h => ?_) (fun cdv A outer s H vs Q E hr h => ?_)
  · obtain ⟨z, rfl, _⟩ := h
    rfl
  · obtain ⟨z, rfl, h7, k1, k2⟩ := h
    refine ⟨_, (pss_cons (ps_if (pt_cmpR op_eq (pv 0) pe_str (nomark _)) (pss_one (ps_ret (pe_lst pa_nil))) pss_nil)
 (pss_cons (ps_setLc (i := 1) (own := [("part", 2)]) (g := gName 2) (tt := tYes) rfl sc_law_deeds_of.nd rfl rfl (sw_true rfl rfl rfl (by decide +kernel)) (pi_listK (K := K) (pe_split (pv 0) pe_str)) (blkOk_by (own := [("part", 2)]) (N := ["text", "found", "part"]) (sc := defScope s_law_deeds_of) (by decide +kernel)) (fun _ _ _ _ _ => (pg_name (i := 2) sc_law_deeds_of.nd rfl (by first | exact Or.inl rfl | exact Or.inr rfl))) (fun _ _ _ _ _ => pts_nil) (fun _ _ _ _ _ => (pe_cal C_law_row_of (hr.mono (by omega)) rfl (pa_cons (pv 2) pa_nil))))
 (pss_one (ps_ret (pe_ifExp (pt_cmpR (r := rInD K) (op_inD (u65L hr)) pe_non (pv 1) (by rfl)) pe_non (pv 1)))))), ?_⟩
    have hpt := h7.part (y := ", ") (by decide +kernel) (by decide +kernel)
    have hct := split_cnt z ", "
    have hz5 := h7.2
    walk_at "rds"
    refine rd_ifd (fun h => ?_) (fun h => ?_)
    · have hz : z = "-" := by injection h
      walk_at "rd"
      intro p hp
      exact k2 [] (by unfold deedsR; rw [if_pos hz]) p [] _ hp upd_same .nil (same_upd hp)
    have hz : z ≠ "-" := fun q => h (by rw [q])
    unfold deedsR at k1 k2
    rw [if_neg hz] at k1 k2
    walk_at "rd"
    refine rd_m1 ?_
    walk_at "rd"
    refine ⟨⟨_, rfl⟩, ?_⟩
    walk_at "rd"
    refine ⟨z, _, rfl, rfl, by decide +kernel, by rw [sizeLine_eq]; omega, fun p hp => ?_⟩
    generalize Txt.split z ", " = ps at hpt hct k1 k2 hp
    have s1 := same_upd (o := .lst (ps.map V.str)) hp
    walk_at "rd"
    refine ⟨p, rfl, ⟨_, SqL.of upd_same⟩, fun D hD => ?_⟩
    refine lc_it (walk_list (xs := ps.map V.str)) (CompR D _ ps (fun p => optR (rowRd p))) (CompR.start hD) (fun i H' _ p => by obtain ⟨_, _, _, p⟩ := p; exact SqL.of (p _ _ upd_same)) ?_ ?_
    · rintro i y Ha Hb hi pc ⟨rfl, hy⟩
      rw [List.getElem?_map] at hy
      obtain ⟨u, hu, rfl⟩ := Option.map_eq_some_iff.mp hy
      walk_at "rd"
      refine ⟨rfl, ?_⟩
      walk_at "rd"
      refine ⟨u, rfl, hpt u (List.mem_of_getElem? hu), fun v H5 rv s5 => ?_⟩
      exact pc.stepB hD (by simp at hi; omega) hu s5 rv
    rintro Ha pc
    obtain ⟨us, h1, h2, h3⟩ := pc.end (by rw [List.length_map])
    have hdl : (PyData.list (ps.map fun p => optR (rowRd p))).canLay0 = true := lay_map ps fun p _ => by
      cases hq : rowRd p with
      | none => rfl
      | some r => exact Rw.lay (rowRd_form hq)
    have hdo : okN 3 (.list (ps.map fun p => optR (rowRd p))) := ⟨by rw [List.length_map]; omega, fun d hd => by
      obtain ⟨p, _, rfl⟩ := List.mem_map.mp hd
      cases hq : rowRd p with
      | none => exact trivial
      | some r => exact Rw.ok (rowRd_form hq)⟩
    have hshp := shaped_of hdl hdo (by decide)
    walk_at "rd"
    refine rd_tif ?_
    walk_at "rd"
    refine ⟨.none, _, .non, .lst (SqL.of h1) h2.dp, by decide +kernel, hshp, _, rfl, ?_⟩
    rw [optR_any]
    cases hm : ps.mapM rowRd with
    | none =>
      refine rd_ifT rfl ?_
      walk_at "rd"
      exact k1 hm _ (s1.trans h3)
    | some rs =>
      refine rd_ifF (fun h => nomatch h) ?_
      walk_at "rd"
      rw [optR_all hm] at h2
      exact k2 rs hm D us _ (s1.free hD) h1 h2 (s1.trans h3)

end
end Rg

namespace Rg
open PySem PySem.Spec L2
local macro_rules | `(tactic| walk_at "rd1") => `(tactic| first
  | with_reducible refine rd_seq ?_
  | with_reducible refine rd_asg ?_
  | ((with_reducible show tVar _ _ _ _); refine rd_var rfl ?_)
  | with_reducible refine rd_c ?_
  | with_reducible refine rd_op ?_
  | with_reducible refine rd_I0 ?_
  | with_reducible refine rd_name ?_
  | with_reducible refine rd_ret ?_
  | with_reducible refine rd_ifs ?_
  | with_reducible refine rd_test ?_
  | with_reducible refine rd_tB ?_
  | with_reducible refine rd_bl ?_
  | with_reducible refine rd_drop ?_
  | with_reducible refine rd_nil ?_
  | with_reducible refine rd_cons ?_
  | with_reducible refine rd_call ?_
  | with_reducible refine rd_cb ?_
  | with_reducible refine rd_tup ?_
  | with_reducible refine rd_lst ?_
  | with_reducible refine rd_and ?_
  | with_reducible refine rd_or ?_
  | with_reducible refine rd_not ?_
  | with_reducible refine rd_andV ?_
  | with_reducible refine rd_orV ?_
  | with_reducible refine rd_notV ?_
  | with_reducible refine rd_chain ?_
  | with_reducible refine rd_un ?_
  | with_reducible refine rd_isN ?_
  | with_reducible refine rd_bm ?_
  | with_reducible refine rd_bm0 ?_
  | with_reducible refine rd_gsub ?_
  | with_reducible refine rd_sl ?_
  | with_reducible refine rd_gt ?_
  | with_reducible refine rd_yes ?_
  | with_reducible refine rd_gcons ?_
  | with_reducible refine rd_gnil ?_
  | with_reducible refine rd_part ?_
  | with_reducible refine rd_nopart ?_
  | ((with_reducible show gTup _ _ _ _ _ _ _); refine rd_gtup (by first | assumption | exact upd_same) rfl ?_)
  | ((with_reducible show gLst _ _ _ _ _ _ _); refine rd_glst (by first | assumption | exact upd_same) rfl ?_)
  | ((with_reducible show rIsi _ _ _ _); first | refine rd_isi (b := true) (.ty _) (.base (by first | exact .int _ | exact .str _ | exact .bl _ | exact .non | exact .tup (by assumption) | exact .lst (by assumption))) (kit_ty (by decide +kernel)) ?_ | refine rd_isi (b := false) (.ty _) (.base (by first | exact .int _ | exact .str _ | exact .bl _ | exact .non | exact .tup (by assumption) | exact .lst (by assumption))) (kit_ty (by decide +kernel)) ?_)
  | with_reducible refine rd_fld ?_
  | with_reducible refine rd_sfld ?_
  | with_reducible refine rd_meth ?_
  | with_reducible refine rd_make ?_
  | with_reducible refine rd_makeK ?_
  | with_reducible refine rd_U ?_
  | with_reducible refine rd_makeKS ?_
  | with_reducible refine rd_callN ?_
  | with_reducible refine rd_rs ?_
  | with_reducible refine rd_rf ?_
  | with_reducible refine rd_star ?_
  | with_reducible refine rd_callS ?_
  | with_reducible refine rd_for ?_
  | with_reducible refine rd_lc ?_
  | with_reducible refine rd_ilist ?_
  | with_reducible refine rd_itup ?_
  | with_reducible refine rd_irng ?_
  | with_reducible refine rd_izipS ?_
  | with_reducible refine rd_ienum ?_
  | with_reducible refine rd_ienT ?_
  | with_reducible refine rd_next ?_
  | with_reducible refine rd_eq rfl ?_
  | with_reducible refine rd_ne rfl ?_
  | with_reducible refine iteT ?_
  | with_reducible refine iteF ?_
  | with_reducible refine rd_ifnT ?_
  | with_reducible refine rd_ifnF ?_
  | ((with_reducible show rI (fun _ j => (0 : Int) < j) _ _ _ _ _); refine rd_mod (by omega) ?_)
  | with_reducible refine rd_new rfl ?_
  | ((with_reducible show rIxL _ _ (V.int 0) _ _); refine rd_ixL0 (by first | assumption | exact upd_same) ?_)
  | ((with_reducible show rIxL _ _ _ _ _); refine rd_ixL (by first | assumption | exact upd_same) rfl ?_)
  | ((with_reducible show rSetL _ _ _ _ _); refine rd_setL (by first | assumption | exact upd_same) rfl ?_)
  | ((with_reducible show rI CMul _ _ _ _ _); refine rd_mul (by first | exact Or.inl ⟨by omega, by omega⟩ | exact Or.inr ⟨by omega, by omega⟩) ?_)
  | ((with_reducible show tyV _ "list" _ _ ∧ _); refine rd_tyL (by first | assumption | exact upd_same) ?_)
  | ((with_reducible show rIxT _ _ (V.int 0) _ _); refine rd_ixT0 (by first | assumption | exact upd_same) ?_)
  | ((with_reducible show rIxT _ _ _ _ _); refine rd_ixT (by first | assumption | exact upd_same) rfl ?_))
local macro_rules | `(tactic| walk_at "rdn1") => `(tactic| first
  | with_reducible refine rd_seq ?_
  | with_reducible refine rd_asg ?_
  | ((with_reducible show tVar _ _ _ _); refine rd_var rfl ?_)
  | with_reducible refine rd_c ?_
  | with_reducible refine rd_op ?_
  | with_reducible refine rd_I0 ?_
  | with_reducible refine rd_name ?_
  | with_reducible refine rd_ret ?_
  | with_reducible refine rd_ifs ?_
  | with_reducible refine rd_test ?_
  | with_reducible refine rd_tB ?_
  | with_reducible refine rd_bl ?_
  | with_reducible refine rd_drop ?_
  | with_reducible refine rd_nil ?_
  | with_reducible refine rd_cons ?_
  | with_reducible refine rd_call ?_
  | with_reducible refine rd_cb ?_
  | with_reducible refine rd_tup ?_
  | with_reducible refine rd_lst ?_
  | with_reducible refine rd_and ?_
  | with_reducible refine rd_or ?_
  | with_reducible refine rd_not ?_
  | with_reducible refine rd_notV ?_
  | with_reducible refine rd_chain ?_
  | with_reducible refine rd_un ?_
  | with_reducible refine rd_isN ?_
  | with_reducible refine rd_bm ?_
  | with_reducible refine rd_bm0 ?_
  | with_reducible refine rd_gsub ?_
  | with_reducible refine rd_sl ?_
  | with_reducible refine rd_gt ?_
  | with_reducible refine rd_yes ?_
  | with_reducible refine rd_gcons ?_
  | with_reducible refine rd_gnil ?_
  | with_reducible refine rd_part ?_
  | with_reducible refine rd_nopart ?_
  | ((with_reducible show gTup _ _ _ _ _ _ _); refine rd_gtup (by first | assumption | exact upd_same) rfl ?_)
  | ((with_reducible show gLst _ _ _ _ _ _ _); refine rd_glst (by first | assumption | exact upd_same) rfl ?_)
  | ((with_reducible show rIsi _ _ _ _); first | refine rd_isi (b := true) (.ty _) (.base (by first | exact .int _ | exact .str _ | exact .bl _ | exact .non | exact .tup (by assumption) | exact .lst (by assumption))) (kit_ty (by decide +kernel)) ?_ | refine rd_isi (b := false) (.ty _) (.base (by first | exact .int _ | exact .str _ | exact .bl _ | exact .non | exact .tup (by assumption) | exact .lst (by assumption))) (kit_ty (by decide +kernel)) ?_)
  | with_reducible refine rd_fld ?_
  | with_reducible refine rd_sfld ?_
  | with_reducible refine rd_meth ?_
  | with_reducible refine rd_make ?_
  | with_reducible refine rd_makeK ?_
  | with_reducible refine rd_U ?_
  | with_reducible refine rd_makeKS ?_
  | with_reducible refine rd_callN ?_
  | with_reducible refine rd_rs ?_
  | with_reducible refine rd_rf ?_
  | with_reducible refine rd_star ?_
  | with_reducible refine rd_callS ?_
  | with_reducible refine rd_for ?_
  | with_reducible refine rd_lc ?_
  | with_reducible refine rd_ilist ?_
  | with_reducible refine rd_itup ?_
  | with_reducible refine rd_irng ?_
  | with_reducible refine rd_izipS ?_
  | with_reducible refine rd_ienum ?_
  | with_reducible refine rd_ienT ?_
  | with_reducible refine rd_next ?_
  | with_reducible refine rd_eq rfl ?_
  | with_reducible refine rd_ne rfl ?_
  | with_reducible refine iteT ?_
  | with_reducible refine iteF ?_
  | with_reducible refine rd_ifnT ?_
  | with_reducible refine rd_ifnF ?_
  | ((with_reducible show rI (fun _ j => (0 : Int) < j) _ _ _ _ _); refine rd_mod (by omega) ?_)
  | with_reducible refine rd_new rfl ?_
  | ((with_reducible show rIxL _ _ (V.int 0) _ _); refine rd_ixL0 (by first | assumption | exact upd_same) ?_)
  | ((with_reducible show rIxL _ _ _ _ _); refine rd_ixL (by first | assumption | exact upd_same) rfl ?_)
  | ((with_reducible show rSetL _ _ _ _ _); refine rd_setL (by first | assumption | exact upd_same) rfl ?_)
  | ((with_reducible show rI CMul _ _ _ _ _); refine rd_mul (by first | exact Or.inl ⟨by omega, by omega⟩ | exact Or.inr ⟨by omega, by omega⟩) ?_)
  | ((with_reducible show tyV _ "list" _ _ ∧ _); refine rd_tyL (by first | assumption | exact upd_same) ?_)
  | ((with_reducible show rIxT _ _ (V.int 0) _ _); refine rd_ixT0 (by first | assumption | exact upd_same) ?_)
  | ((with_reducible show rIxT _ _ _ _ _); refine rd_ixT (by first | assumption | exact upd_same) rfl ?_))
local macro_rules | `(tactic| walk_at "rd") => `(tactic| (repeat (first | walk_at "rd1" | dsimp only)))
local macro_rules | `(tactic| walk_at "rds") => `(tactic| (dsimp only [cxOf, Cx.nox, Cx.wish, Cx.blk, L2.start]; walk_at "rd"))
local macro_rules | `(tactic| walk_at "rdn") => `(tactic| (repeat (first | walk_at "rdn1" | dsimp only)))
section
variable {P : Program} {w : World} {K : PySem.W.Frag} {mg : Str → Option Value} {base : Heap}

theorem numT_t7 {i : Int} : ∀ c ∈ (numT i).cps.toList, c < 128 := fun c hc => by
  rcases Nat.lt_or_ge c 128 with h | h
  · exact h
  · exact absurd hc (numT_free (by omega))
theorem rowT_t7 {r : Rw} (hf : RwForm r) (hb : RowB r) : T7 (rowT r) 250 := by
  refine ⟨?_, rowT_len hf hb⟩
  have h : ∀ p ∈ r.op :: r.ns.map numT, T7 p (r.op.length + 61) := fun p hp => by
    rcases List.mem_cons.mp hp with e | e
    · rw [e]
      obtain ⟨l, hl, _⟩ := id hf
      exact ⟨fun c hc => by have := (form_free hl).1 c hc; omega, by omega⟩
    · obtain ⟨i, hi, rfl⟩ := List.mem_map.mp e
      exact ⟨numT_t7, by have := numT_len (hb i hi); omega⟩
  exact T7.join (y := " ") (k := 1) (t7_of (by decide +kernel)) h
theorem deedsT_t7 {rs : List Rw} (h : ∀ r ∈ rs, RwForm r ∧ RowB r) (hl : rs.length ≤ 5) : T7 (deedsT rs) 1300 := by
  unfold deedsT
  by_cases hn : rs = []
  · rw [if_pos hn]
    exact t7_of (by decide +kernel)
  · rw [if_neg hn]
    refine ⟨T7.join (y := ", ") (k := 2) (n := 250) (t7_of (by decide +kernel)) fun p hp => ?_, by have := rowsT_len h; omega⟩
    obtain ⟨r, hr, rfl⟩ := List.mem_map.mp hp
    exact rowT_t7 (h r hr).1 (h r hr).2
def mB : Nat → Nat
  | 0 => 1300
  | 1 => 5300
  | 2 => 21300
  | _ => 85300
theorem rws_okB {rs : List Rw} (hl : rs.length ≤ 1000000) (h : ∀ x ∈ rs, RwForm x) : okN 3 (.list (rs.map Rw.d)) := ⟨by rw [List.length_map]; omega, fun d hd => by
    obtain ⟨x, hx, rfl⟩ := List.mem_map.mp hd
    exact Rw.ok (h x hx)⟩
theorem deedsR_ok {z : Str} {rs : List Rw} (h : deedsR z = some rs) (hz : z.length ≤ 100000) : okN 4 (.list (rs.map Rw.d)) := by
  unfold deedsR at h
  by_cases h0 : z = "-"
  · rw [if_pos h0] at h
    injection h with h
    subst h
    exact ⟨by simp, fun d hd => by cases hd⟩
  · rw [if_neg h0] at h
    obtain ⟨hl, hg⟩ := mapM_get h
    have hc := split_cnt z ", "
    refine okN_succ (rws_okB (by omega) fun x hx => ?_)
    obtain ⟨i, hi, e⟩ := List.getElem_of_mem hx
    have e2 : rs[i]? = some x := by rw [List.getElem?_eq_getElem hi, e]
    have hi2 : i < (Txt.split z ", ").length := by omega
    obtain ⟨b, hb1, hb2⟩ := hg i _ (List.getElem?_eq_getElem hi2)
    rw [e2] at hb2
    injection hb2 with hb2
    rw [hb2]
    exact rowRd_form hb1
def spLaw (K : PySem.W.Frag) : Sp := fun vs H Q _ => ∃ (a : Addr) (ns : List Int), vs = [.ref a] ∧ SqL K H a (ns.map V.int) ∧ ns.length ≤ 63 ∧ ∀ H', Q (.bl true) H'
theorem ok_law {f NT R0 A_NoDeed A_NoMachine A_NoRing A_NoRow A_NoSegment A_NoWish A_TooMany A_Unlike : Addr} {fd : FuncData} (B : BT mg) (F : Fun K "law" "law" s_law f fd) (X_NT : ExkT P w K mg base "NoText" NT) (XI : ExI K NT)
    (N0 : mg "RingError" = some (.ref R0)) (gVE : mg "ValueError" = none) (N_NoDeed : mg "NoDeed" = some (.ref A_NoDeed)) (N_NoMachine : mg "NoMachine" = some (.ref A_NoMachine)) (N_NoRing : mg "NoRing" = some (.ref A_NoRing)) (N_NoRow : mg "NoRow" = some (.ref A_NoRow)) (N_NoSegment : mg "NoSegment" = some (.ref A_NoSegment)) (N_NoWish : mg "NoWish" = some (.ref A_NoWish)) (N_TooMany : mg "TooMany" = some (.ref A_TooMany)) (N_Unlike : mg "Unlike" = some (.ref A_Unlike))
    (ex : PySem.W.exmOne K (.ref NT) (.ref NT) = some true) (q0 : PySem.W.kitOne K (.ref NT) (.ref R0) = some true) (q1 : PySem.W.kitOne K (.ref NT) (.type "ValueError") = some true) (q2 : PySem.W.kitAny K (.ref NT) [.ref A_NoDeed, .ref A_NoMachine, .ref A_NoRing, .ref A_NoRow, .ref A_NoSegment, .ref A_NoWish, .ref A_TooMany, .ref A_Unlike] = some false)
    (C_read_deeds : CalX P w K mg base "read_deeds" 7 ["text"] (spReadX NT))
    (C_law_tray : Cal P w K mg base "_law_tray" 1 ["script"] (spTray K)) (C_law_draw : Cal P w K mg base "_law_draw" 1 ["tray", "many"] spDraw) (C_law_row : Cal P w K mg base "_law_row" 4 ["tray", "many"] spRowN)
    (C_law_row_shown : Cal P w K mg base "_law_row_shown" 1 ["row"] spRowShown) (C_law_spoilt : Cal P w K mg base "_law_spoilt" 4 ["tray", "text"] spSpoilt) (C_law_deeds_of : Cal P w K mg base "_law_deeds_of" 4 ["text"] spDeedsL) (C_law_alike : Cal P w K mg base "_law_alike" 4 ["found", "due"] (spAlike K 4)) : FnOk P w K mg base CX0 9 f fd ["script"] (spLaw K) := by
  refine F.ok sc_law (fun vs H Q E h => ?_) (fun cdv A outer s H vs Q E hr h => ?_)
  · obtain ⟨a, ns, rfl, _⟩ := h
    rfl
  · obtain ⟨a, ns, rfl, hS, hl, k⟩ := h
    refine ⟨_, (pss_cons (ps_set (i := 1) sc_law.nd rfl (Or.inr rfl) (pe_cal C_law_tray (hr.mono (by omega)) rfl (pa_cons (pv 0) pa_nil)))
 (pss_cons (ps_for PassesOwn.never rfl (pi_range1 rfl B.g_range (pa_cons (pe_op op_add pe_int (pe_callB (cr_lenS (K := K)) rfl B.g_len PySem.boot_len (pa_cons (pe_slice (r := rSlL K) sl_list (pv 0) po_none (po_some pe_int)) pa_nil))) pa_nil)) (pg_name (i := 2) sc_law.nd rfl (Or.inl rfl))
 (pss_cons (ps_setLc (i := 3) (own := [("j", 5)]) (g := gName 5) (tt := tYes) rfl sc_law.nd rfl rfl (sw_true rfl rfl rfl (by decide +kernel)) (pi_range1 rfl B.g_range (pa_cons (pe_cal C_law_draw (hr.mono (by omega)) rfl (pa_cons (pv 1) (pa_cons pe_int pa_nil))) pa_nil)) (blkOk_by (own := [("j", 5)]) (N := ["script", "tray", "k", "some", "text", "j", "due", "found", "refused", "e", "row"]) (sc := defScope s_law) (by decide +kernel)) (fun _ _ _ _ _ => (pg_name (i := 5) sc_law.nd rfl (by first | exact Or.inl rfl | exact Or.inr rfl))) (fun _ _ _ _ _ => pts_nil) (fun _ _ _ _ _ => (pe_cal C_law_row (hr.mono (by omega)) rfl (pa_cons (pv 1) (pa_cons pe_int pa_nil)))))
 (pss_cons (ps_set (i := 4) sc_law.nd rfl (Or.inl rfl) (pe_joinK (K := K) pe_str (pe_lc (own := [("row", 10)]) (g := gName 10) (tt := tYes) rfl sc_law.nd (pi_listK (K := K) (pv 3)) (blkOk_by (own := [("row", 10)]) (N := ["script", "tray", "k", "some", "text", "j", "due", "found", "refused", "e", "row"]) (sc := defScope s_law) (by decide +kernel)) (fun _ _ _ _ _ => (pg_name (i := 10) sc_law.nd rfl (by first | exact Or.inl rfl | exact Or.inr rfl))) (fun _ _ _ _ _ => pts_nil) (fun _ _ _ _ _ => (pe_cal C_law_row_shown (hr.mono (by omega)) rfl (pa_cons (pv 10) pa_nil))))))
 (pss_cons (ps_if (pt_cmpR (r := rEqD K) (op_eqD hr.units) (pv 3) (pe_lst pa_nil) (nomark _)) (pss_one (ps_set (i := 4) sc_law.nd rfl (Or.inl rfl) pe_str)) pss_nil)
 (pss_cons (ps_for PassesOwn.never rfl (pi_range1 rfl B.g_range (pa_cons (pe_cal C_law_draw (hr.mono (by omega)) rfl (pa_cons (pv 1) (pa_cons pe_int pa_nil))) pa_nil)) (pg_name (i := 5) sc_law.nd rfl (Or.inl rfl))
 (pss_one (ps_set (i := 4) sc_law.nd rfl (Or.inl rfl) (pe_cal C_law_spoilt (hr.mono (by omega)) rfl (pa_cons (pv 1) (pa_cons (pv 4) pa_nil))))))
 (pss_cons (ps_set (i := 6) sc_law.nd rfl (Or.inl rfl) (pe_cal C_law_deeds_of (hr.mono (by omega)) rfl (pa_cons (pv 4) pa_nil)))
 (pss_cons (ps_set (i := 7) sc_law.nd rfl (Or.inl rfl) pe_non)
 (pss_cons (ps_set (i := 8) sc_law.nd rfl (Or.inl rfl) (pe_lst pa_nil))
 (pss_cons (ps_try_as (i := 9) rfl rfl sc_law.nd rfl rfl ⟨rfl, by decide, .inl X_NT.mgx⟩ takes0 (fun W pn xe tk _ => (pss_one (ps_set (i := 7) sc_law.nd rfl (Or.inl rfl) (pe_calS C_read_deeds tk (hr.mono (by omega)) rfl (pa_cons (pv 4) pa_nil))))) (fun a oe cls d pn hz hf => (pss_one (ps_set (i := 8) sc_law.nd rfl (Or.inl rfl) (pe_lst (pa_cons (pe_xf X_NT.xf X_NT.wh hz hf (pv 9)) (pa_cons (pe_callB (r := rIsX K a cls d) (cr_isX hz hf) rfl B.g_isinstance (by decide +kernel) (pa_cons (pv 9) (pa_cons (pe_glob (v := .ref R0) rfl N0 rfl) pa_nil))) (pa_cons (pe_callB (r := rIsX K a cls d) (cr_isX hz hf) rfl B.g_isinstance (by decide +kernel) (pa_cons (pv 9) (pa_cons (pe_bltn (v := .ty "ValueError") rfl gVE (by decide +kernel) rfl) pa_nil))) (pa_cons (pe_callB (r := rIsXT K a cls d) (cr_isXT hz hf) rfl B.g_isinstance (by decide +kernel) (pa_cons (pv 9) (pa_cons (pe_tup (pa_cons (pe_glob (v := .ref A_NoDeed) rfl N_NoDeed rfl) (pa_cons (pe_glob (v := .ref A_NoMachine) rfl N_NoMachine rfl) (pa_cons (pe_glob (v := .ref A_NoRing) rfl N_NoRing rfl) (pa_cons (pe_glob (v := .ref A_NoRow) rfl N_NoRow rfl) (pa_cons (pe_glob (v := .ref A_NoSegment) rfl N_NoSegment rfl) (pa_cons (pe_glob (v := .ref A_NoWish) rfl N_NoWish rfl) (pa_cons (pe_glob (v := .ref A_TooMany) rfl N_TooMany rfl) (pa_cons (pe_glob (v := .ref A_Unlike) rfl N_Unlike rfl) pa_nil))))))))) pa_nil))) pa_nil)))))))))
 (pss_cons (ps_if (PW.pt (pw_and (pt_cmpR op_isN (pv 6) pe_non (nomark _)) (pw_and1 (pt_not (pt_val (pe_cal C_law_alike (hr.mono (by omega)) rfl (pa_cons (pv 8) (pa_cons (pe_lst (pa_cons (pv 4) (pa_cons pe_bl (pa_cons pe_bl (pa_cons pe_bl pa_nil))))) pa_nil)))))))) (pss_one (ps_ret pe_bl)) pss_nil)
 (pss_one (ps_if (PW.pt (pw_and (pt_cmpR op_notN (pv 6) pe_non (nomark _)) (pw_and1 (PW.pt (pw_or (pt_cmpR (r := rNeD K) (op_neD hr.units) (pv 8) (pe_lst pa_nil) (nomark _)) (pw_or1 (pt_not (pt_val (pe_cal C_law_alike (hr.mono (by omega)) rfl (pa_cons (pv 7) (pa_cons (pv 6) pa_nil))))))))))) (pss_one (ps_ret pe_bl)) pss_nil))))))))))))
 (pss_one (ps_ret pe_bl)))), ?_⟩
    walk_at "rds"
    refine ⟨a, ns, rfl, hS, hl, fun t g H1 s1 nt ng T1 => ?_⟩
    walk_at "rd"
    refine ⟨16, rfl, ?_⟩
    walk_at "rd"
    refine ⟨a, ns.map V.int, rfl, s1.seq hS, fun p hp => ?_⟩
    walk_at "rd"
    refine ⟨p, _, rfl, .inl (SqL.of upd_same), ?_⟩
    have lc10 : (cutV (ns.map V.int) none (some 16)).length ≤ 16 := by
      unfold cutV
      rw [List.length_take, List.length_drop, List.length_map]
      have : HT.sIx ns.length ns.length (some 16) ≤ 16 := by unfold HT.sIx; simp; omega
      omega
    generalize cutV (ns.map V.int) none (some 16) = cs at lc10
    walk_at "rd"
    refine ⟨_, rfl, by omega, by omega, ?_⟩
    refine for_inv (walk_range (n := (3 + (cs.length : Int)).toNat)) (fun i σ' H' => (∃ c2 c3 c4 c5 c6 c7 c8 c9 c10, σ' = [some (.ref a), some (.ref t), c2, c3, c4, c5, c6, c7, c8, c9, c10]) ∧ Tray H' t g (4000 * i)) ⟨⟨_, _, _, _, _, _, _, _, _, rfl⟩, (T1.new hp)⟩ (fun _ _ _ _ _ => trivial) ?_ ?_
    · rintro B' i x σ1 H2 H3 hi ⟨⟨c2, c3, c4, c5, c6, c7, c8, c9, c10, rfl⟩, T2⟩ ⟨rfl, rfl⟩
      have hi2 : i < 20 := by omega
      walk_at "rd"
      refine use_draw T2 (by omega) (by decide) (by decide) fun mn H5 a5 b5 T5 k5 => ?_
      walk_at "rd"
      refine ⟨mn, rfl, by omega, by omega, fun S hS0 => ?_⟩
      refine lc_it (walk_range (n := mn.toNat)) (GenL t g S H5 (4000 * i + 10) 50 (fun d => ∃ x : Rw, d = x.d ∧ (RwForm x ∧ RowB x))) (GenL.start (T5.mono (by omega)) hS0) (fun _ _ _ _ => trivial) ?_ ?_
      · rintro j y H6 H7 hj pc ⟨rfl, rfl⟩
        walk_at "rd"
        refine ⟨rfl, ?_⟩
        walk_at "rd"
        refine use_rowN pc.tray (by omega) (by decide) (by decide) fun v r H8 rv hf hb _ T8 k8 => ?_
        exact pc.step (T5.mono (by omega)) hS0 (by omega) T8 (by omega) k8 rv ⟨r, rfl, hf, hb⟩
      rintro H6 ⟨us, ds, e6, ra, hl6, hp6, T6, k6⟩
      obtain ⟨rs, rfl, hrs⟩ := map_of ds hp6
      have lrs : rs.length ≤ 5 := by simp at hl6; omega
      have lus : us.length = rs.length := by rw [ra.length, List.length_map]
      have lens := rows_lens hrs
      walk_at "rd"
      refine rd_m1 ?_
      walk_at "rd"
      refine ⟨⟨_, rfl⟩, ?_⟩
      walk_at "rd"
      refine ⟨S, rfl, ⟨_, SqL.of e6⟩, fun D hD => ?_⟩
      refine lc_it (walk_list (xs := us)) (CompL D H6 (rs.map rowT) V.str) (CompL.start hD) (fun i H' _ p => SqL.of (p.2 _ _ e6)) ?_ ?_
      · rintro j y Ha Hb hj pc ⟨rfl, hy⟩
        obtain ⟨d, hd, ry⟩ := ra.get hy
        rw [List.getElem?_map] at hd
        obtain ⟨r, hr0, rfl⟩ := Option.map_eq_some_iff.mp hd
        have hr1 := hrs r (List.mem_of_getElem? hr0)
        walk_at "rd"
        refine ⟨rfl, ?_⟩
        walk_at "rd"
        refine ⟨y, r, rfl, ry.keep (Tk.of pc.2), hr1.1, hr1.2, fun H4 s4 => ?_⟩
        exact pc.step hD (by omega) (b := rowT r) (by rw [List.getElem?_map, hr0]; rfl) s4 rfl
      rintro H7 pc
      have he := pc.end (by rw [List.length_map]; exact lus)
      have s67 := pc.2
      walk_at "rd"
      refine rd_sjoin he (by omega) ?_
      refine rd_name ?_
      have okr := rws_okB (by omega) (fun x hx => (hrs x hx).1)
      have hlay : (PyData.list (rs.map Rw.d)).canLay0 = true := lay_map rs fun x hx => Rw.lay (hrs x hx).1
      have shr := shaped_of hlay okr (by decide)
      refine rd_seqJ (fun σ' H' => (∃ c5 c6 c7 c8 c9 c10, σ' = [some (.ref a), some (.ref t), some (.int (0 + (i : Int))), some (.ref S), some (.str (deedsT rs)), c5, c6, c7, c8, c9, c10]) ∧ Same H6 H') (fun R hR => ?_) ?_
      · walk_at "rd"
        intro p8 h8
        have s8 := s67.trans (same_upd (o := .lst []) h8)
        refine rd_eqD (d := .list (rs.map Rw.d)) (e := .list []) (.lst (SqL.of (s8 _ _ e6)) (ra.keep (Tk.of s8)).dp) (.lst (SqL.of upd_same) .nil) shr (by decide +kernel) ?_
        by_cases hn : rs = []
        · subst hn
          rw [show PyData.eqv (.list (([] : List Rw).map Rw.d)) (.list []) = true from rfl]
          walk_at "rd"
          exact hR _ _ ⟨⟨_, _, _, _, _, _, by unfold deedsT; rw [if_pos rfl]; rfl⟩, s8⟩
        · rw [show PyData.eqv (.list (rs.map Rw.d)) (.list []) = false from by cases rs with | nil => exact absurd rfl hn | cons => rfl]
          walk_at "rd"
          exact hR _ _ ⟨⟨_, _, _, _, _, _, by unfold deedsT; rw [if_neg hn]; rfl⟩, s8⟩
      rintro σ2 H8 ⟨⟨c5', c6', c7', c8', c9', c10', rfl⟩, s8⟩
      have T8 := T6.same s8
      have h7 := deedsT_t7 hrs lrs
      walk_at "rd"
      refine use_draw (T8.mono (m := 4000 * i + 400) (by simp at hl6; omega)) (by omega) (by decide) (by decide) fun nn H9 a9 b9 T9 k9 => ?_
      walk_at "rd"
      refine ⟨nn, rfl, by omega, by omega, ?_⟩
      refine for_inv (walk_range (n := nn.toNat)) (fun j σ' H' => (∃ z : Str, T7 z (mB j) ∧ ∃ c5 c6 c7 c8 c9 c10, σ' = [some (.ref a), some (.ref t), some (.int (0 + (i : Int))), some (.ref S), some (.str z), c5, c6, c7, c8, c9, c10]) ∧ Tray H' t g (4000 * i + 500 + 20 * j)) ⟨⟨_, h7, _, _, _, _, _, _, rfl⟩, T9.mono (by omega)⟩ (fun _ _ _ _ _ => trivial) ?_ ?_
      · rintro B2 j x σ3 Ha Hb hj ⟨⟨z, hz7, d5, d6, d7, d8, d9, d10, rfl⟩, Ta⟩ ⟨rfl, rfl⟩
        have hj2 : j < 3 := by omega
        walk_at "rd"
        refine ⟨t, g, _, z, mB j, rfl, Ta, by omega, hz7, ?_, fun z' Hc hz' Tc kc => ?_⟩
        · rcases (show j = 0 ∨ j = 1 ∨ j = 2 by omega) with rfl | rfl | rfl <;> decide
        walk_at "rd"
        refine ⟨⟨z', hz'.mono ?_, _, _, _, _, _, _, rfl⟩, Tc.mono (by omega)⟩
        rcases (show j = 0 ∨ j = 1 ∨ j = 2 by omega) with rfl | rfl | rfl <;> decide
      rintro σ3 Ha ⟨⟨z, hz7, d5, d6, d7, d8, d9, d10, rfl⟩, Ta⟩
      have hz7 : T7 z 100000 := hz7.mono (by rcases (show nn.toNat = 0 ∨ nn.toNat = 1 ∨ nn.toNat = 2 ∨ nn.toNat = 3 by omega) with e | e | e | e <;> rw [e] <;> decide)
      walk_at "rd"
      refine ⟨z, rfl, hz7, fun hd Hb sb => ?_, fun qs hd Ld ud Hb hLd eLd rLd sb => ?_⟩
      · walk_at "rd"
        intro l hl0
        have s0 := sb.trans (same_upd (o := .lst []) hl0)
        walk_at "rd"
        refine ⟨z, rfl, hz7.tx (by decide), fun rs2 h2 => (by rw [hd] at h2; cases h2), fun _ d H1 hd1 hd2 s1 => ?_⟩
        refine ⟨true, ex, fun _ ax hax => ?_, fun z => nomatch z⟩
        walk_at "rd"
        refine ⟨_, rfl, rfl, rfl, d, _, _, rfl, hd2, rfl, ?_⟩
        walk_at "rd"
        refine ⟨_, NT, d, _, _, true, rfl, rfl, rfl, hd2, XI, .own R0, q0, ?_⟩
        walk_at "rd"
        refine ⟨_, NT, d, _, _, true, rfl, rfl, rfl, hd2, XI, .ty _, q1, ?_⟩
        walk_at "rd"
        intro tp htp
        walk_at "rd"
        refine ⟨tp, NT, d, _, _, _, false, rfl, rfl, rfl, (same_upd htp) _ _ hd2, XI, upd_same, .cons (.own _) (.cons (.own _) (.cons (.own _) (.cons (.own _) (.cons (.own _) (.cons (.own _) (.cons (.own _) (.cons (.own _) (.nil)))))))), q2, ?_⟩
        walk_at "rd"
        intro L hL
        have sT := (s0.trans s1).trans (same_upd (o := .tup [.ref A_NoDeed, .ref A_NoMachine, .ref A_NoRing, .ref A_NoRow, .ref A_NoSegment, .ref A_NoWish, .ref A_TooMany, .ref A_Unlike]) htp)
        walk_at "rd"
        refine ⟨rfl, ?_⟩
        walk_at "rd"
        refine rd_ifT rfl ?_
        walk_at "rd"
        intro L2 hL2
        have e1 := (same_upd (o := .lst [.str z, .bl true, .bl true, .bl false]) hL2) _ _ (upd_same (a := L) (o := .lst [.str z, .bl true, .bl true, .bl false]))
        walk_at "rd"
        refine ⟨_, _, .list [.str z, .bool true, .bool true, .bool false], rfl, .lst (SqL.of e1) (.cons (.str _) (.cons (.bl _) (.cons (.bl _) (.cons (.bl _) .nil)))), .lst (SqL.of upd_same) (.cons (.str _) (.cons (.bl _) (.cons (.bl _) (.cons (.bl _) .nil)))), ⟨by simp, fun d hd => by
          simp only [List.mem_cons, List.not_mem_nil, or_false] at hd
          rcases hd with rfl | rfl | rfl | rfl <;> exact trivial⟩, ?_⟩
        walk_at "rd"
        refine ⟨rfl, ?_⟩
        walk_at "rd"
        rw [show decide (V.non = V.non) = true from rfl]
        walk_at "rd"
        exact ⟨⟨_, _, _, _, _, _, _, _, _, rfl⟩, (Ta.same ((sT.trans (same_upd hL)).trans (same_upd hL2))).mono (by omega)⟩
      · walk_at "rd"
        intro l hl0
        have s0 := sb.trans (same_upd (o := .lst []) hl0)
        have el : upd Hb l (.lst []) l = some (.lst []) := upd_same
        have eLd2 := (same_upd (o := .lst []) hl0) _ _ eLd
        have rLd2 := rLd.keep (Tk.of (same_upd (o := .lst []) hl0))
        generalize upd Hb l (.lst []) = Hc at s0 el eLd2 rLd2
        walk_at "rd"
        refine ⟨z, rfl, hz7.tx (by decide), fun rs2 h2 L2 us2 H1 hL2 eL2 rL2 s1 => ?_, fun h2 => by rw [hd] at h2; cases h2⟩
        have e12 : rs2 = qs := by rw [hd] at h2; injection h2 with h2; exact h2.symm
        subst e12
        have dok := deedsR_ok hd hz7.2
        walk_at "rd"
        refine ⟨rfl, ?_⟩
        walk_at "rd"
        refine rd_ifF (fun h => nomatch h) ?_
        walk_at "rd"
        refine ⟨rfl, ?_⟩
        walk_at "rd"
        rw [decide_eq_false (show ¬ V.ref Ld = V.non from fun h => nomatch h)]
        walk_at "rd"
        intro l2 hl2
        have s2 := s1.trans (same_upd (o := .lst []) hl2)
        refine rd_neD (d := .list []) (e := .list []) (.lst (SqL.of (s2 _ _ el)) .nil) (.lst (SqL.of upd_same) .nil) (by decide +kernel) (by decide +kernel) ?_
        refine ⟨_, rfl, ?_⟩
        rw [show PyData.eqv (.list []) (.list []) = true from rfl]
        walk_at "rd"
        have tk2 : Tk _ (upd H1 l2 (.lst [])) := Tk.of (same_upd hl2)
        refine ⟨_, _, .list (rs2.map Rw.d), rfl, .lst (SqL.of ((same_upd hl2) _ _ eL2)) (rL2.keep tk2).dp, .lst (SqL.of (s2 _ _ eLd2)) ((rLd2.keep (Tk.of s1)).keep tk2).dp, dok, ?_⟩
        walk_at "rd"
        exact ⟨⟨_, _, _, _, _, _, _, _, _, rfl⟩, (Ta.same (s0.trans s2)).mono (by omega)⟩
    · rintro σ1 H2 ⟨⟨c2, c3, c4, c5, c6, c7, c8, c9, c10, rfl⟩, T2⟩
      walk_at "rd"
      exact k _

end
end Rg

namespace Rg
open PySem PySem.Spec L2
local macro_rules | `(tactic| walk_at "rd1") => `(tactic| first
  | with_reducible refine rd_seq ?_
  | with_reducible refine rd_asg ?_
  | ((with_reducible show tVar _ _ _ _); refine rd_var rfl ?_)
  | with_reducible refine rd_c ?_
  | with_reducible refine rd_op ?_
  | with_reducible refine rd_I0 ?_
  | with_reducible refine rd_name ?_
  | with_reducible refine rd_ret ?_
  | with_reducible refine rd_ifs ?_
  | with_reducible refine rd_test ?_
  | with_reducible refine rd_tB ?_
  | with_reducible refine rd_bl ?_
  | with_reducible refine rd_drop ?_
  | with_reducible refine rd_nil ?_
  | with_reducible refine rd_cons ?_
  | with_reducible refine rd_call ?_
  | with_reducible refine rd_cb ?_
  | with_reducible refine rd_tup ?_
  | with_reducible refine rd_lst ?_
  | with_reducible refine rd_and ?_
  | with_reducible refine rd_or ?_
  | with_reducible refine rd_not ?_
  | with_reducible refine rd_andV ?_
  | with_reducible refine rd_orV ?_
  | with_reducible refine rd_notV ?_
  | with_reducible refine rd_chain ?_
  | with_reducible refine rd_un ?_
  | with_reducible refine rd_isN ?_
  | with_reducible refine rd_bm ?_
  | with_reducible refine rd_bm0 ?_
  | with_reducible refine rd_gsub ?_
  | with_reducible refine rd_sl ?_
  | with_reducible refine rd_gt ?_
  | with_reducible refine rd_yes ?_
  | with_reducible refine rd_gcons ?_
  | with_reducible refine rd_gnil ?_
  | with_reducible refine rd_part ?_
  | with_reducible refine rd_nopart ?_
  | ((with_reducible show gTup _ _ _ _ _ _ _); refine rd_gtup (by first | assumption | exact upd_same) rfl ?_)
  | ((with_reducible show gLst _ _ _ _ _ _ _); refine rd_glst (by first | assumption | exact upd_same) rfl ?_)
  | ((with_reducible show rIsi _ _ _ _); first | refine rd_isi (b := true) (.ty _) (.base (by first | exact .int _ | exact .str _ | exact .bl _ | exact .non | exact .tup (by assumption) | exact .lst (by assumption))) (kit_ty (by decide +kernel)) ?_ | refine rd_isi (b := false) (.ty _) (.base (by first | exact .int _ | exact .str _ | exact .bl _ | exact .non | exact .tup (by assumption) | exact .lst (by assumption))) (kit_ty (by decide +kernel)) ?_)
  | with_reducible refine rd_fld ?_
  | with_reducible refine rd_sfld ?_
  | with_reducible refine rd_meth ?_
  | with_reducible refine rd_make ?_
  | with_reducible refine rd_makeK ?_
  | with_reducible refine rd_U ?_
  | with_reducible refine rd_makeKS ?_
  | with_reducible refine rd_callN ?_
  | with_reducible refine rd_rs ?_
  | with_reducible refine rd_rf ?_
  | with_reducible refine rd_star ?_
  | with_reducible refine rd_callS ?_
  | with_reducible refine rd_for ?_
  | with_reducible refine rd_lc ?_
  | with_reducible refine rd_ilist ?_
  | with_reducible refine rd_itup ?_
  | with_reducible refine rd_irng ?_
  | with_reducible refine rd_izipS ?_
  | with_reducible refine rd_ienum ?_
  | with_reducible refine rd_ienT ?_
  | with_reducible refine rd_next ?_
  | with_reducible refine rd_eq rfl ?_
  | with_reducible refine rd_ne rfl ?_
  | with_reducible refine iteT ?_
  | with_reducible refine iteF ?_
  | with_reducible refine rd_ifnT ?_
  | with_reducible refine rd_ifnF ?_
  | ((with_reducible show rI (fun _ j => (0 : Int) < j) _ _ _ _ _); refine rd_mod (by omega) ?_)
  | with_reducible refine rd_new rfl ?_
  | ((with_reducible show rIxL _ _ (V.int 0) _ _); refine rd_ixL0 (by first | assumption | exact upd_same) ?_)
  | ((with_reducible show rIxL _ _ _ _ _); refine rd_ixL (by first | assumption | exact upd_same) rfl ?_)
  | ((with_reducible show rSetL _ _ _ _ _); refine rd_setL (by first | assumption | exact upd_same) rfl ?_)
  | ((with_reducible show rI CMul _ _ _ _ _); refine rd_mul (by first | exact Or.inl ⟨by omega, by omega⟩ | exact Or.inr ⟨by omega, by omega⟩) ?_)
  | ((with_reducible show tyV _ "list" _ _ ∧ _); refine rd_tyL (by first | assumption | exact upd_same) ?_)
  | ((with_reducible show rIxT _ _ (V.int 0) _ _); refine rd_ixT0 (by first | assumption | exact upd_same) ?_)
  | ((with_reducible show rIxT _ _ _ _ _); refine rd_ixT (by first | assumption | exact upd_same) rfl ?_))
local macro_rules | `(tactic| walk_at "rdn1") => `(tactic| first
  | with_reducible refine rd_seq ?_
  | with_reducible refine rd_asg ?_
  | ((with_reducible show tVar _ _ _ _); refine rd_var rfl ?_)
  | with_reducible refine rd_c ?_
  | with_reducible refine rd_op ?_
  | with_reducible refine rd_I0 ?_
  | with_reducible refine rd_name ?_
  | with_reducible refine rd_ret ?_
  | with_reducible refine rd_ifs ?_
  | with_reducible refine rd_test ?_
  | with_reducible refine rd_tB ?_
  | with_reducible refine rd_bl ?_
  | with_reducible refine rd_drop ?_
  | with_reducible refine rd_nil ?_
  | with_reducible refine rd_cons ?_
  | with_reducible refine rd_call ?_
  | with_reducible refine rd_cb ?_
  | with_reducible refine rd_tup ?_
  | with_reducible refine rd_lst ?_
  | with_reducible refine rd_and ?_
  | with_reducible refine rd_or ?_
  | with_reducible refine rd_not ?_
  | with_reducible refine rd_notV ?_
  | with_reducible refine rd_chain ?_
  | with_reducible refine rd_un ?_
  | with_reducible refine rd_isN ?_
  | with_reducible refine rd_bm ?_
  | with_reducible refine rd_bm0 ?_
  | with_reducible refine rd_gsub ?_
  | with_reducible refine rd_sl ?_
  | with_reducible refine rd_gt ?_
  | with_reducible refine rd_yes ?_
  | with_reducible refine rd_gcons ?_
  | with_reducible refine rd_gnil ?_
  | with_reducible refine rd_part ?_
  | with_reducible refine rd_nopart ?_
  | ((with_reducible show gTup _ _ _ _ _ _ _); refine rd_gtup (by first | assumption | exact upd_same) rfl ?_)
  | ((with_reducible show gLst _ _ _ _ _ _ _); refine rd_glst (by first | assumption | exact upd_same) rfl ?_)
  | ((with_reducible show rIsi _ _ _ _); first | refine rd_isi (b := true) (.ty _) (.base (by first | exact .int _ | exact .str _ | exact .bl _ | exact .non | exact .tup (by assumption) | exact .lst (by assumption))) (kit_ty (by decide +kernel)) ?_ | refine rd_isi (b := false) (.ty _) (.base (by first | exact .int _ | exact .str _ | exact .bl _ | exact .non | exact .tup (by assumption) | exact .lst (by assumption))) (kit_ty (by decide +kernel)) ?_)
  | with_reducible refine rd_fld ?_
  | with_reducible refine rd_sfld ?_
  | with_reducible refine rd_meth ?_
  | with_reducible refine rd_make ?_
  | with_reducible refine rd_makeK ?_
  | with_reducible refine rd_U ?_
  | with_reducible refine rd_makeKS ?_
  | with_reducible refine rd_callN ?_
  | with_reducible refine rd_rs ?_
  | with_reducible refine rd_rf ?_
  | with_reducible refine rd_star ?_
  | with_reducible refine rd_callS ?_
  | with_reducible refine rd_for ?_
  | with_reducible refine rd_lc ?_
  | with_reducible refine rd_ilist ?_
  | with_reducible refine rd_itup ?_
  | with_reducible refine rd_irng ?_
  | with_reducible refine rd_izipS ?_
  | with_reducible refine rd_ienum ?_
  | with_reducible refine rd_ienT ?_
  | with_reducible refine rd_next ?_
  | with_reducible refine rd_eq rfl ?_
  | with_reducible refine rd_ne rfl ?_
  | with_reducible refine iteT ?_
  | with_reducible refine iteF ?_
  | with_reducible refine rd_ifnT ?_
  | with_reducible refine rd_ifnF ?_
  | ((with_reducible show rI (fun _ j => (0 : Int) < j) _ _ _ _ _); refine rd_mod (by omega) ?_)
  | with_reducible refine rd_new rfl ?_
  | ((with_reducible show rIxL _ _ (V.int 0) _ _); refine rd_ixL0 (by first | assumption | exact upd_same) ?_)
  | ((with_reducible show rIxL _ _ _ _ _); refine rd_ixL (by first | assumption | exact upd_same) rfl ?_)
  | ((with_reducible show rSetL _ _ _ _ _); refine rd_setL (by first | assumption | exact upd_same) rfl ?_)
  | ((with_reducible show rI CMul _ _ _ _ _); refine rd_mul (by first | exact Or.inl ⟨by omega, by omega⟩ | exact Or.inr ⟨by omega, by omega⟩) ?_)
  | ((with_reducible show tyV _ "list" _ _ ∧ _); refine rd_tyL (by first | assumption | exact upd_same) ?_)
  | ((with_reducible show rIxT _ _ (V.int 0) _ _); refine rd_ixT0 (by first | assumption | exact upd_same) ?_)
  | ((with_reducible show rIxT _ _ _ _ _); refine rd_ixT (by first | assumption | exact upd_same) rfl ?_))
local macro_rules | `(tactic| walk_at "rd") => `(tactic| (repeat (first | walk_at "rd1" | dsimp only)))
local macro_rules | `(tactic| walk_at "rds") => `(tactic| (dsimp only [cxOf, Cx.nox, Cx.wish, Cx.blk, L2.start]; walk_at "rd"))
local macro_rules | `(tactic| walk_at "rdn") => `(tactic| (repeat (first | walk_at "rdn1" | dsimp only)))
section
variable {P : Program} {w : World} {K : PySem.W.Frag} {mg : Str → Option Value} {base : Heap}

/-! ### a table of the top whose keys and values are texts -/
def EsS : List DictEntry → List (Str × Str) → Prop
  | [], [] => True
  | e :: es, (k, l) :: kvs => ((∃ tk, e.key = .str k tk) ∧ ∃ t, e.val = .str l t) ∧ EsS es kvs
  | _, _ => False
theorem es_findS {z : Str} : ∀ {es : List DictEntry} {kvs : List (Str × Str)}, EsS es kvs → ∃ o : Option Value, (match es.find? (fun e => e.key.isStr z) with | some e => some (some e.val) | none => if (es.any fun e => e.refKey) = true then none else some none) = some o ∧ RelV (((kvs.lookup z).map V.str).getD .non) (o.getD .none) ∧ (es.any fun e => e.refKey) = false
  | [], [], _ => ⟨none, rfl, rfl, rfl⟩
  | e :: es, (k, l) :: kvs, h => by
    obtain ⟨⟨⟨tk, hk⟩, t, hv⟩, hr⟩ := h
    obtain ⟨o, i1, i3, i2⟩ := es_findS (z := z) hr
    have hn : e.refKey = false := by unfold DictEntry.refKey; rw [hk]
    have hi : e.key.isStr z = (k == z) := by rw [hk]; rfl
    have ha : ((e :: es).any fun e => e.refKey) = false := by rw [List.any_cons, hn, i2]; rfl
    rw [List.lookup_cons]
    by_cases hz : k = z
    · subst hz
      refine ⟨some e.val, ?_, ?_, ha⟩
      · rw [List.find?_cons_of_pos (by rw [hi]; exact beq_self_eq_true k)]
      · rw [beq_self_eq_true, hv]
        exact ⟨t, rfl⟩
    · have h1 : (k == z) = false := by simpa using hz
      have h2 : (z == k) = false := by simpa using fun e => hz e.symm
      refine ⟨o, ?_, ?_, ha⟩
      · rw [List.find?_cons_of_neg (by rw [hi, h1]; decide), List.any_cons, hn]
        exact i1
      · rw [h2]
        exact i3
  | [], _ :: _, h => h.elim
  | _ :: _, [], h => h.elim
theorem fo_at {a : Addr} {es : Array DictEntry} {n : Nat} (hm : mg "ROW_FORMS" = some (.ref a)) (h1 : K.lookup a = some ⟨.type "dict", none, .dict es n, #[]⟩) (h2 : PySem.W.KeysLit w.params es.toList) (h3 : (a == sysModules) = false) (h4 : EsS es.toList rowForms) : GFoX K w mg := by
  refine ⟨a, hm, ⟨es, n, h1⟩, fun z => ?_⟩
  obtain ⟨o, e1, e2, _⟩ := es_findS (z := z) h4
  refine ⟨es, n, o, h1, h2, h3, ?_, e2⟩
  unfold PySem.W.nsIn
  rw [h1]
  exact e1

end
end Rg

namespace Rg
open PySem PySem.Spec L2
local macro_rules | `(tactic| walk_at "rd1") => `(tactic| first
  | with_reducible refine rd_seq ?_
  | with_reducible refine rd_asg ?_
  | ((with_reducible show tVar _ _ _ _); refine rd_var rfl ?_)
  | with_reducible refine rd_c ?_
  | with_reducible refine rd_op ?_
  | with_reducible refine rd_I0 ?_
  | with_reducible refine rd_name ?_
  | with_reducible refine rd_ret ?_
  | with_reducible refine rd_ifs ?_
  | with_reducible refine rd_test ?_
  | with_reducible refine rd_tB ?_
  | with_reducible refine rd_bl ?_
  | with_reducible refine rd_drop ?_
  | with_reducible refine rd_nil ?_
  | with_reducible refine rd_cons ?_
  | with_reducible refine rd_call ?_
  | with_reducible refine rd_cb ?_
  | with_reducible refine rd_tup ?_
  | with_reducible refine rd_lst ?_
  | with_reducible refine rd_and ?_
  | with_reducible refine rd_or ?_
  | with_reducible refine rd_not ?_
  | with_reducible refine rd_andV ?_
  | with_reducible refine rd_orV ?_
  | with_reducible refine rd_notV ?_
  | with_reducible refine rd_chain ?_
  | with_reducible refine rd_un ?_
  | with_reducible refine rd_isN ?_
  | with_reducible refine rd_bm ?_
  | with_reducible refine rd_bm0 ?_
  | with_reducible refine rd_gsub ?_
  | with_reducible refine rd_sl ?_
  | with_reducible refine rd_gt ?_
  | with_reducible refine rd_yes ?_
  | with_reducible refine rd_gcons ?_
  | with_reducible refine rd_gnil ?_
  | with_reducible refine rd_part ?_
  | with_reducible refine rd_nopart ?_
  | ((with_reducible show gTup _ _ _ _ _ _ _); refine rd_gtup (by first | assumption | exact upd_same) rfl ?_)
  | ((with_reducible show gLst _ _ _ _ _ _ _); refine rd_glst (by first | assumption | exact upd_same) rfl ?_)
  | ((with_reducible show rIsi _ _ _ _); first | refine rd_isi (b := true) (.ty _) (.base (by first | exact .int _ | exact .str _ | exact .bl _ | exact .non | exact .tup (by assumption) | exact .lst (by assumption))) (kit_ty (by decide +kernel)) ?_ | refine rd_isi (b := false) (.ty _) (.base (by first | exact .int _ | exact .str _ | exact .bl _ | exact .non | exact .tup (by assumption) | exact .lst (by assumption))) (kit_ty (by decide +kernel)) ?_)
  | with_reducible refine rd_fld ?_
  | with_reducible refine rd_sfld ?_
  | with_reducible refine rd_meth ?_
  | with_reducible refine rd_make ?_
  | with_reducible refine rd_makeK ?_
  | with_reducible refine rd_U ?_
  | with_reducible refine rd_makeKS ?_
  | with_reducible refine rd_callN ?_
  | with_reducible refine rd_rs ?_
  | with_reducible refine rd_rf ?_
  | with_reducible refine rd_star ?_
  | with_reducible refine rd_callS ?_
  | with_reducible refine rd_for ?_
  | with_reducible refine rd_lc ?_
  | with_reducible refine rd_ilist ?_
  | with_reducible refine rd_itup ?_
  | with_reducible refine rd_irng ?_
  | with_reducible refine rd_izipS ?_
  | with_reducible refine rd_ienum ?_
  | with_reducible refine rd_ienT ?_
  | with_reducible refine rd_next ?_
  | with_reducible refine rd_eq rfl ?_
  | with_reducible refine rd_ne rfl ?_
  | with_reducible refine iteT ?_
  | with_reducible refine iteF ?_
  | with_reducible refine rd_ifnT ?_
  | with_reducible refine rd_ifnF ?_
  | ((with_reducible show rI (fun _ j => (0 : Int) < j) _ _ _ _ _); refine rd_mod (by omega) ?_)
  | with_reducible refine rd_new rfl ?_
  | ((with_reducible show rIxL _ _ (V.int 0) _ _); refine rd_ixL0 (by first | assumption | exact upd_same) ?_)
  | ((with_reducible show rIxL _ _ _ _ _); refine rd_ixL (by first | assumption | exact upd_same) rfl ?_)
  | ((with_reducible show rSetL _ _ _ _ _); refine rd_setL (by first | assumption | exact upd_same) rfl ?_)
  | ((with_reducible show rI CMul _ _ _ _ _); refine rd_mul (by first | exact Or.inl ⟨by omega, by omega⟩ | exact Or.inr ⟨by omega, by omega⟩) ?_)
  | ((with_reducible show tyV _ "list" _ _ ∧ _); refine rd_tyL (by first | assumption | exact upd_same) ?_)
  | ((with_reducible show rIxT _ _ (V.int 0) _ _); refine rd_ixT0 (by first | assumption | exact upd_same) ?_)
  | ((with_reducible show rIxT _ _ _ _ _); refine rd_ixT (by first | assumption | exact upd_same) rfl ?_))
local macro_rules | `(tactic| walk_at "rdn1") => `(tactic| first
  | with_reducible refine rd_seq ?_
  | with_reducible refine rd_asg ?_
  | ((with_reducible show tVar _ _ _ _); refine rd_var rfl ?_)
  | with_reducible refine rd_c ?_
  | with_reducible refine rd_op ?_
  | with_reducible refine rd_I0 ?_
  | with_reducible refine rd_name ?_
  | with_reducible refine rd_ret ?_
  | with_reducible refine rd_ifs ?_
  | with_reducible refine rd_test ?_
  | with_reducible refine rd_tB ?_
  | with_reducible refine rd_bl ?_
  | with_reducible refine rd_drop ?_
  | with_reducible refine rd_nil ?_
  | with_reducible refine rd_cons ?_
  | with_reducible refine rd_call ?_
  | with_reducible refine rd_cb ?_
  | with_reducible refine rd_tup ?_
  | with_reducible refine rd_lst ?_
  | with_reducible refine rd_and ?_
  | with_reducible refine rd_or ?_
  | with_reducible refine rd_not ?_
  | with_reducible refine rd_notV ?_
  | with_reducible refine rd_chain ?_
  | with_reducible refine rd_un ?_
  | with_reducible refine rd_isN ?_
  | with_reducible refine rd_bm ?_
  | with_reducible refine rd_bm0 ?_
  | with_reducible refine rd_gsub ?_
  | with_reducible refine rd_sl ?_
  | with_reducible refine rd_gt ?_
  | with_reducible refine rd_yes ?_
  | with_reducible refine rd_gcons ?_
  | with_reducible refine rd_gnil ?_
  | with_reducible refine rd_part ?_
  | with_reducible refine rd_nopart ?_
  | ((with_reducible show gTup _ _ _ _ _ _ _); refine rd_gtup (by first | assumption | exact upd_same) rfl ?_)
  | ((with_reducible show gLst _ _ _ _ _ _ _); refine rd_glst (by first | assumption | exact upd_same) rfl ?_)
  | ((with_reducible show rIsi _ _ _ _); first | refine rd_isi (b := true) (.ty _) (.base (by first | exact .int _ | exact .str _ | exact .bl _ | exact .non | exact .tup (by assumption) | exact .lst (by assumption))) (kit_ty (by decide +kernel)) ?_ | refine rd_isi (b := false) (.ty _) (.base (by first | exact .int _ | exact .str _ | exact .bl _ | exact .non | exact .tup (by assumption) | exact .lst (by assumption))) (kit_ty (by decide +kernel)) ?_)
  | with_reducible refine rd_fld ?_
  | with_reducible refine rd_sfld ?_
  | with_reducible refine rd_meth ?_
  | with_reducible refine rd_make ?_
  | with_reducible refine rd_makeK ?_
  | with_reducible refine rd_U ?_
  | with_reducible refine rd_makeKS ?_
  | with_reducible refine rd_callN ?_
  | with_reducible refine rd_rs ?_
  | with_reducible refine rd_rf ?_
  | with_reducible refine rd_star ?_
  | with_reducible refine rd_callS ?_
  | with_reducible refine rd_for ?_
  | with_reducible refine rd_lc ?_
  | with_reducible refine rd_ilist ?_
  | with_reducible refine rd_itup ?_
  | with_reducible refine rd_irng ?_
  | with_reducible refine rd_izipS ?_
  | with_reducible refine rd_ienum ?_
  | with_reducible refine rd_ienT ?_
  | with_reducible refine rd_next ?_
  | with_reducible refine rd_eq rfl ?_
  | with_reducible refine rd_ne rfl ?_
  | with_reducible refine iteT ?_
  | with_reducible refine iteF ?_
  | with_reducible refine rd_ifnT ?_
  | with_reducible refine rd_ifnF ?_
  | ((with_reducible show rI (fun _ j => (0 : Int) < j) _ _ _ _ _); refine rd_mod (by omega) ?_)
  | with_reducible refine rd_new rfl ?_
  | ((with_reducible show rIxL _ _ (V.int 0) _ _); refine rd_ixL0 (by first | assumption | exact upd_same) ?_)
  | ((with_reducible show rIxL _ _ _ _ _); refine rd_ixL (by first | assumption | exact upd_same) rfl ?_)
  | ((with_reducible show rSetL _ _ _ _ _); refine rd_setL (by first | assumption | exact upd_same) rfl ?_)
  | ((with_reducible show rI CMul _ _ _ _ _); refine rd_mul (by first | exact Or.inl ⟨by omega, by omega⟩ | exact Or.inr ⟨by omega, by omega⟩) ?_)
  | ((with_reducible show tyV _ "list" _ _ ∧ _); refine rd_tyL (by first | assumption | exact upd_same) ?_)
  | ((with_reducible show rIxT _ _ (V.int 0) _ _); refine rd_ixT0 (by first | assumption | exact upd_same) ?_)
  | ((with_reducible show rIxT _ _ _ _ _); refine rd_ixT (by first | assumption | exact upd_same) rfl ?_))
local macro_rules | `(tactic| walk_at "rd") => `(tactic| (repeat (first | walk_at "rd1" | dsimp only)))
local macro_rules | `(tactic| walk_at "rds") => `(tactic| (dsimp only [cxOf, Cx.nox, Cx.wish, Cx.blk, L2.start]; walk_at "rd"))
local macro_rules | `(tactic| walk_at "rdn") => `(tactic| (repeat (first | walk_at "rdn1" | dsimp only)))
section
variable {P : Program} {w : World} {K : PySem.W.Frag} {mg : Str → Option Value} {base : Heap}

theorem ok_REinit {f : Addr} {fd : FuncData} (F : Fun K "__init__" "RingError.__init__" s_RingError__init f fd) (gVE : mg "ValueError" = none) (vV : PySem.W.findCls K (.type "ValueError") (.type "type") "__init__" = some (.val (.builtin "ValueError.__init__"))) : FnOk P w K mg base CX0 1 f fd ["self", "what"] (spRE K) := by
  refine F.ok sc_RingError__init (fun vs H Q E h => ?_) (fun cdv A outer s H vs Q E hr h => ?_)
  · obtain ⟨a, C, v, rfl, _⟩ := h
    rfl
  · obtain ⟨a, C, v, rfl, hi, T, hw, ha, k⟩ := h
    refine ⟨_, (pss_cons (ps_expr (pe_veinit rfl gVE vV (pa_cons (pv 0) (pa_cons (pe_joined (.cons pe_str (.cons (pe_fmtX (pv 1)) .nil))) pa_nil))))
 (pss_one (ps_ost (pv 0) (pv 1)))), ?_⟩
    walk_at "rds"
    refine ⟨_, rfl, _, rfl, by decide +kernel, _, rfl, hi, fun y hy => ⟨_, rfl, ?_, a, C, _, rfl, by show 1 ≤ 1000; decide, T, ha, ?_⟩⟩
    · rw [Str.length_append]
      have h9 : ((Str.empty ++ "refused: " : Str)).length = 9 := by decide +kernel
      rw [h9, sizeLine_eq]
      exact Nat.le_trans (Nat.add_le_add_left hy 9) (by decide)
    · refine ⟨_, rfl, _, rfl, a, C, rfl, T, hw, .inl ⟨ha, fun dx hd ne => ?_⟩⟩
      exact k dx hd ne
theorem ok_NoRing_init {f f0 : Addr} {fd fd0 : FuncData} (U : UbC K mg "RingError" "__init__" f0) (F0 : FnOk P w K mg base CX0 1 f0 fd0 ["self", "what"] (spRE K)) (b0 : Binds K fd0 ["self", "what"] []) (F : Fun K "__init__" "NoRing.__init__" s_NoRing__init f fd) : FnOk P w K mg base CX0 2 f fd ["self", "what"] (spRE K) := by
  refine F.ok sc_NoRing__init (fun vs H Q E h => ?_) (fun cdv A outer s H vs Q E hr h => ?_)
  · obtain ⟨a, C, v, rfl, _⟩ := h
    rfl
  · obtain ⟨a, C, v, rfl, hv, T, hw, ha, k⟩ := h
    refine ⟨_, (pss_one (ps_expr (pe_ubm U rfl F0 b0 (hr.mono (by omega)) (pa_cons (pv 0) (pa_cons (pv 1) pa_nil))))), ?_⟩
    walk_at "rds"
    exact ⟨a, C, v, rfl, hv, T, hw, ha, k⟩

end
end Rg

namespace Rg
open PySem PySem.Spec L2
theorem all_mk {l : PySem.W.OpenLaw} {w : World} {K : PySem.W.Frag} {h : Heap} {mg : Str → Option Value} {fa : Addr} (X : K.In h) (G : h.Ns mainGlobals mg) (hfa : mg "law" = some (.ref fa))
    {f1 : Addr} {od1 an1 : Option Addr} {sl1 : Array (Option Value)} {oc1 kV1 dc1 pm1 cd1 ct1 : Value}
    {f2 : Addr} {od2 an2 : Option Addr} {sl2 : Array (Option Value)} {oc2 kV2 dc2 pm2 cd2 ct2 : Value}
    {f3 : Addr} {od3 an3 : Option Addr} {sl3 : Array (Option Value)} {oc3 kV3 dc3 pm3 cd3 ct3 : Value}
    {f4 : Addr} {od4 an4 : Option Addr} {sl4 : Array (Option Value)} {oc4 kV4 dc4 pm4 cd4 ct4 : Value}
    {f5 : Addr} {od5 an5 : Option Addr} {sl5 : Array (Option Value)} {oc5 kV5 dc5 pm5 cd5 ct5 : Value}
    {f6 : Addr} {od6 an6 : Option Addr} {sl6 : Array (Option Value)} {oc6 kV6 dc6 pm6 cd6 ct6 : Value}
    {f7 : Addr} {od7 an7 : Option Addr} {sl7 : Array (Option Value)} {oc7 kV7 dc7 pm7 cd7 ct7 : Value}
    {f8 : Addr} {od8 an8 : Option Addr} {sl8 : Array (Option Value)} {oc8 kV8 dc8 pm8 cd8 ct8 : Value}
    {f9 : Addr} {od9 an9 : Option Addr} {sl9 : Array (Option Value)} {oc9 kV9 dc9 pm9 cd9 ct9 : Value}
    {f10 : Addr} {od10 an10 : Option Addr} {sl10 : Array (Option Value)} {oc10 kV10 dc10 pm10 cd10 ct10 : Value}
    {f11 : Addr} {od11 an11 : Option Addr} {sl11 : Array (Option Value)} {oc11 kV11 dc11 pm11 cd11 ct11 : Value}
    {f12 : Addr} {od12 an12 : Option Addr} {sl12 : Array (Option Value)} {oc12 kV12 dc12 pm12 cd12 ct12 : Value}
    {f13 : Addr} {od13 an13 : Option Addr} {sl13 : Array (Option Value)} {oc13 kV13 dc13 pm13 cd13 ct13 : Value}
    {f14 : Addr} {od14 an14 : Option Addr} {sl14 : Array (Option Value)} {oc14 kV14 dc14 pm14 cd14 ct14 : Value}
    {f15 : Addr} {od15 an15 : Option Addr} {sl15 : Array (Option Value)} {oc15 kV15 dc15 pm15 cd15 ct15 : Value}
    {f16 : Addr} {od16 an16 : Option Addr} {sl16 : Array (Option Value)} {oc16 kV16 dc16 pm16 cd16 ct16 : Value}
    {f17 : Addr} {od17 an17 : Option Addr} {sl17 : Array (Option Value)} {oc17 kV17 dc17 pm17 cd17 ct17 : Value}
    {f18 : Addr} {od18 an18 : Option Addr} {sl18 : Array (Option Value)} {oc18 kV18 dc18 pm18 cd18 ct18 : Value}
    {f19 : Addr} {od19 an19 : Option Addr} {sl19 : Array (Option Value)} {oc19 kV19 dc19 pm19 cd19 ct19 : Value}
    {t20 : Tok}
    {t21 : Tok}
    {t22 : Tok}
    {R : Addr} {es : Array DictEntry} {nR : Nat}
    {q0 : Tok}
    {q1 : Tok}
    {q2 : Tok}
    {q3 : Tok}
    {q4 : Tok}
    {q5 : Tok}
    {q6 : Tok}
    {q7 : Tok}
    {q8 : Tok}
    {q9 : Tok}
    {q10 : Tok}
    {q11 : Tok}
    {R0 : Addr} {mcR : Value}
    {f40 : Addr} {od40 an40 : Option Addr} {sl40 : Array (Option Value)} {oc40 kV40 dc40 pm40 cd40 ct40 : Value}
    {E_NoText : Addr} {nm_NoText q_NoText : Str} {N_NoText : Addr} {bs_NoText : List Value} {sn_NoText : _} {sub_NoText : _} {ab_NoText : _} {col_NoText : _} {dd_NoText : _} {k0_NoText k1_NoText k2_NoText k3_NoText k5_NoText : _}
    {f41 : Addr} {od41 an41 : Option Addr} {sl41 : Array (Option Value)} {oc41 kV41 dc41 pm41 cd41 ct41 : Value}
    {A_NoDeed : Addr}
    {A_NoMachine : Addr}
    {A_NoRing : Addr}
    {A_NoRow : Addr}
    {A_NoSegment : Addr}
    {A_NoWish : Addr}
    {A_TooMany : Addr}
    {A_Unlike : Addr}
    (a1 : PySem.W.nsIn K mainGlobals "is_number" = some (some (.ref f1)))
    (l1 : K.lookup f1 = some ⟨oc1, od1, .func (PySem.W.fnOf "is_number" "is_number" (defArgs s_is_number) (defBody s_is_number) (defScope s_is_number) .none kV1 dc1 pm1 an1 cd1 ct1), sl1⟩)
    (c1 : PySem.W.codeIn K cd1 "is_number" = true)
    (k1 : PySem.W.keepIn K (.ref f1) = true)
    (a2 : PySem.W.nsIn K mainGlobals "number_of" = some (some (.ref f2)))
    (l2 : K.lookup f2 = some ⟨oc2, od2, .func (PySem.W.fnOf "number_of" "number_of" (defArgs s_number_of) (defBody s_number_of) (defScope s_number_of) .none kV2 dc2 pm2 an2 cd2 ct2), sl2⟩)
    (c2 : PySem.W.codeIn K cd2 "number_of" = true)
    (k2 : PySem.W.keepIn K (.ref f2) = true)
    (a3 : PySem.W.nsIn K mainGlobals "row_of" = some (some (.ref f3)))
    (l3 : K.lookup f3 = some ⟨oc3, od3, .func (PySem.W.fnOf "row_of" "row_of" (defArgs s_row_of) (defBody s_row_of) (defScope s_row_of) .none kV3 dc3 pm3 an3 cd3 ct3), sl3⟩)
    (c3 : PySem.W.codeIn K cd3 "row_of" = true)
    (k3 : PySem.W.keepIn K (.ref f3) = true)
    (a4 : PySem.W.nsIn K mainGlobals "read_deeds" = some (some (.ref f4)))
    (l4 : K.lookup f4 = some ⟨oc4, od4, .func (PySem.W.fnOf "read_deeds" "read_deeds" (defArgs s_read_deeds) (defBody s_read_deeds) (defScope s_read_deeds) .none kV4 dc4 pm4 an4 cd4 ct4), sl4⟩)
    (c4 : PySem.W.codeIn K cd4 "read_deeds" = true)
    (k4 : PySem.W.keepIn K (.ref f4) = true)
    (a5 : PySem.W.nsIn K mainGlobals "_law_tray" = some (some (.ref f5)))
    (l5 : K.lookup f5 = some ⟨oc5, od5, .func (PySem.W.fnOf "_law_tray" "_law_tray" (defArgs s_law_tray) (defBody s_law_tray) (defScope s_law_tray) .none kV5 dc5 pm5 an5 cd5 ct5), sl5⟩)
    (c5 : PySem.W.codeIn K cd5 "_law_tray" = true)
    (k5 : PySem.W.keepIn K (.ref f5) = true)
    (a6 : PySem.W.nsIn K mainGlobals "_law_draw" = some (some (.ref f6)))
    (l6 : K.lookup f6 = some ⟨oc6, od6, .func (PySem.W.fnOf "_law_draw" "_law_draw" (defArgs s_law_draw) (defBody s_law_draw) (defScope s_law_draw) .none kV6 dc6 pm6 an6 cd6 ct6), sl6⟩)
    (c6 : PySem.W.codeIn K cd6 "_law_draw" = true)
    (k6 : PySem.W.keepIn K (.ref f6) = true)
    (a7 : PySem.W.nsIn K mainGlobals "_law_great" = some (some (.ref f7)))
    (l7 : K.lookup f7 = some ⟨oc7, od7, .func (PySem.W.fnOf "_law_great" "_law_great" (defArgs s_law_great) (defBody s_law_great) (defScope s_law_great) .none kV7 dc7 pm7 an7 cd7 ct7), sl7⟩)
    (c7 : PySem.W.codeIn K cd7 "_law_great" = true)
    (k7 : PySem.W.keepIn K (.ref f7) = true)
    (a8 : PySem.W.nsIn K mainGlobals "_law_number" = some (some (.ref f8)))
    (l8 : K.lookup f8 = some ⟨oc8, od8, .func (PySem.W.fnOf "_law_number" "_law_number" (defArgs s_law_number) (defBody s_law_number) (defScope s_law_number) .none kV8 dc8 pm8 an8 cd8 ct8), sl8⟩)
    (c8 : PySem.W.codeIn K cd8 "_law_number" = true)
    (k8 : PySem.W.keepIn K (.ref f8) = true)
    (a9 : PySem.W.nsIn K mainGlobals "_law_row" = some (some (.ref f9)))
    (l9 : K.lookup f9 = some ⟨oc9, od9, .func (PySem.W.fnOf "_law_row" "_law_row" (defArgs s_law_row) (defBody s_law_row) (defScope s_law_row) .none kV9 dc9 pm9 an9 cd9 ct9), sl9⟩)
    (c9 : PySem.W.codeIn K cd9 "_law_row" = true)
    (k9 : PySem.W.keepIn K (.ref f9) = true)
    (a10 : PySem.W.nsIn K mainGlobals "_law_row_shown" = some (some (.ref f10)))
    (l10 : K.lookup f10 = some ⟨oc10, od10, .func (PySem.W.fnOf "_law_row_shown" "_law_row_shown" (defArgs s_law_row_shown) (defBody s_law_row_shown) (defScope s_law_row_shown) .none kV10 dc10 pm10 an10 cd10 ct10), sl10⟩)
    (c10 : PySem.W.codeIn K cd10 "_law_row_shown" = true)
    (k10 : PySem.W.keepIn K (.ref f10) = true)
    (a11 : PySem.W.nsIn K mainGlobals "_law_sign" = some (some (.ref f11)))
    (l11 : K.lookup f11 = some ⟨oc11, od11, .func (PySem.W.fnOf "_law_sign" "_law_sign" (defArgs s_law_sign) (defBody s_law_sign) (defScope s_law_sign) .none kV11 dc11 pm11 an11 cd11 ct11), sl11⟩)
    (c11 : PySem.W.codeIn K cd11 "_law_sign" = true)
    (k11 : PySem.W.keepIn K (.ref f11) = true)
    (a12 : PySem.W.nsIn K mainGlobals "_law_sign_spoilt" = some (some (.ref f12)))
    (l12 : K.lookup f12 = some ⟨oc12, od12, .func (PySem.W.fnOf "_law_sign_spoilt" "_law_sign_spoilt" (defArgs s_law_sign_spoilt) (defBody s_law_sign_spoilt) (defScope s_law_sign_spoilt) .none kV12 dc12 pm12 an12 cd12 ct12), sl12⟩)
    (c12 : PySem.W.codeIn K cd12 "_law_sign_spoilt" = true)
    (k12 : PySem.W.keepIn K (.ref f12) = true)
    (a13 : PySem.W.nsIn K mainGlobals "_law_whole_of" = some (some (.ref f13)))
    (l13 : K.lookup f13 = some ⟨oc13, od13, .func (PySem.W.fnOf "_law_whole_of" "_law_whole_of" (defArgs s_law_whole_of) (defBody s_law_whole_of) (defScope s_law_whole_of) .none kV13 dc13 pm13 an13 cd13 ct13), sl13⟩)
    (c13 : PySem.W.codeIn K cd13 "_law_whole_of" = true)
    (k13 : PySem.W.keepIn K (.ref f13) = true)
    (a14 : PySem.W.nsIn K mainGlobals "_law_number_of" = some (some (.ref f14)))
    (l14 : K.lookup f14 = some ⟨oc14, od14, .func (PySem.W.fnOf "_law_number_of" "_law_number_of" (defArgs s_law_number_of) (defBody s_law_number_of) (defScope s_law_number_of) .none kV14 dc14 pm14 an14 cd14 ct14), sl14⟩)
    (c14 : PySem.W.codeIn K cd14 "_law_number_of" = true)
    (k14 : PySem.W.keepIn K (.ref f14) = true)
    (a15 : PySem.W.nsIn K mainGlobals "_law_row_of" = some (some (.ref f15)))
    (l15 : K.lookup f15 = some ⟨oc15, od15, .func (PySem.W.fnOf "_law_row_of" "_law_row_of" (defArgs s_law_row_of) (defBody s_law_row_of) (defScope s_law_row_of) .none kV15 dc15 pm15 an15 cd15 ct15), sl15⟩)
    (c15 : PySem.W.codeIn K cd15 "_law_row_of" = true)
    (k15 : PySem.W.keepIn K (.ref f15) = true)
    (a16 : PySem.W.nsIn K mainGlobals "_law_spoilt" = some (some (.ref f16)))
    (l16 : K.lookup f16 = some ⟨oc16, od16, .func (PySem.W.fnOf "_law_spoilt" "_law_spoilt" (defArgs s_law_spoilt) (defBody s_law_spoilt) (defScope s_law_spoilt) .none kV16 dc16 pm16 an16 cd16 ct16), sl16⟩)
    (c16 : PySem.W.codeIn K cd16 "_law_spoilt" = true)
    (k16 : PySem.W.keepIn K (.ref f16) = true)
    (a17 : PySem.W.nsIn K mainGlobals "_law_deeds_of" = some (some (.ref f17)))
    (l17 : K.lookup f17 = some ⟨oc17, od17, .func (PySem.W.fnOf "_law_deeds_of" "_law_deeds_of" (defArgs s_law_deeds_of) (defBody s_law_deeds_of) (defScope s_law_deeds_of) .none kV17 dc17 pm17 an17 cd17 ct17), sl17⟩)
    (c17 : PySem.W.codeIn K cd17 "_law_deeds_of" = true)
    (k17 : PySem.W.keepIn K (.ref f17) = true)
    (a18 : PySem.W.nsIn K mainGlobals "_law_alike" = some (some (.ref f18)))
    (l18 : K.lookup f18 = some ⟨oc18, od18, .func (PySem.W.fnOf "_law_alike" "_law_alike" (defArgs s_law_alike) (defBody s_law_alike) (defScope s_law_alike) .none kV18 dc18 pm18 an18 cd18 ct18), sl18⟩)
    (c18 : PySem.W.codeIn K cd18 "_law_alike" = true)
    (k18 : PySem.W.keepIn K (.ref f18) = true)
    (a19 : PySem.W.nsIn K mainGlobals "law" = some (some (.ref f19)))
    (l19 : K.lookup f19 = some ⟨oc19, od19, .func (PySem.W.fnOf "law" "law" (defArgs s_law) (defBody s_law) (defScope s_law) .none kV19 dc19 pm19 an19 cd19 ct19), sl19⟩)
    (c19 : PySem.W.codeIn K cd19 "law" = true)
    (k19 : PySem.W.keepIn K (.ref f19) = true)
    (g20 : PySem.W.nsIn K mainGlobals "MOST_FIGURES" = some (some (.int 60 t20)))
    (g21 : PySem.W.nsIn K mainGlobals "NOTHING" = some (some (.str "-" t21)))
    (g22 : PySem.W.nsIn K mainGlobals "FIGURES" = some (some (.str "0123456789" t22)))
    (z23 : PySem.W.nsIn K mainGlobals "len" = some none)
    (z24 : PySem.W.nsIn K mainGlobals "range" = some none)
    (z25 : PySem.W.nsIn K mainGlobals "isinstance" = some none)
    (z26 : PySem.W.nsIn K mainGlobals "all" = some none)
    (z27 : PySem.W.nsIn K mainGlobals "max" = some none)
    (z28 : PySem.W.nsIn K mainGlobals "sorted" = some none)
    (z29 : PySem.W.nsIn K mainGlobals "tuple" = some none)
    (z30 : PySem.W.nsIn K mainGlobals "list" = some none)
    (z31 : PySem.W.nsIn K mainGlobals "int" = some none)
    (z32 : PySem.W.nsIn K mainGlobals "bool" = some none)
    (z33 : PySem.W.nsIn K mainGlobals "str" = some none)
    (z34 : PySem.W.nsIn K mainGlobals "enumerate" = some none)
    (z35 : PySem.W.nsIn K mainGlobals "zip" = some none)
    (z36 : PySem.W.nsIn K mainGlobals "sum" = some none)
    (z37 : PySem.W.nsIn K mainGlobals "min" = some none)
    (z38 : PySem.W.nsIn K mainGlobals "any" = some none)
    (z39 : PySem.W.nsIn K mainGlobals "abs" = some none)
    (aR : PySem.W.nsIn K mainGlobals "ROW_FORMS" = some (some (.ref R)))
    (lR : K.lookup R = some ⟨.type "dict", none, .dict es nR, #[]⟩)
    (kR : PySem.W.KeysLit w.params es.toList)
    (sR : (R == sysModules) = false)
    (r0 : PySem.W.nsIn K R "set" = some (some (.str "n" q0)))
    (r1 : PySem.W.nsIn K R "add" = some (some (.str "n" q1)))
    (r2 : PySem.W.nsIn K R "load" = some (some (.str "pn" q2)))
    (r3 : PySem.W.nsIn K R "store" = some (some (.str "pn" q3)))
    (r4 : PySem.W.nsIn K R "fetch" = some (some (.str "ppn" q4)))
    (r5 : PySem.W.nsIn K R "keep" = some (some (.str "ppn" q5)))
    (r6 : PySem.W.nsIn K R "aim" = some (some (.str "psn" q6)))
    (r7 : PySem.W.nsIn K R "move" = some (some (.str "ppn" q7)))
    (r8 : PySem.W.nsIn K R "zero" = some (some (.str "n" q8)))
    (r9 : PySem.W.nsIn K R "go" = some (some (.str "n" q9)))
    (r10 : PySem.W.nsIn K R "call" = some (some (.str "p" q10)))
    (r11 : PySem.W.nsIn K R "return" = some (some (.str "" q11)))
    (eR : EsS es.toList [("set", "n"), ("add", "n"), ("load", "pn"), ("store", "pn"), ("fetch", "ppn"), ("keep", "ppn"), ("aim", "psn"), ("move", "ppn"), ("zero", "n"), ("go", "n"), ("call", "p"), ("return", "")])
    (eR0 : PySem.W.nsIn K mainGlobals "RingError" = some (some (.ref R0)))
    (a40 : PySem.W.findIn K (.ref R0) "__init__" = some (some (.ref f40)))
    (l40 : K.lookup f40 = some ⟨oc40, od40, .func (PySem.W.fnOf "__init__" "RingError.__init__" (defArgs s_RingError__init) (defBody s_RingError__init) (defScope s_RingError__init) .none kV40 dc40 pm40 an40 cd40 ct40), sl40⟩)
    (c40 : PySem.W.codeIn K cd40 "RingError.__init__" = true)
    (k40 : PySem.W.keepIn K (.ref f40) = true)
    (rg0 : PySem.W.specialIn K (.ref R0) "__getattribute__" = some (some (.builtin "type.__getattribute__")))
    (rg1 : PySem.W.typeIn K (.ref R0) = some mcR)
    (rg2 : PySem.W.readsIn K R0 mcR = true)
    (rg3 : PySem.W.findCls K (.ref R0) mcR "__init__" = some (.val (.ref f40)))
    (gVE0 : PySem.W.nsIn K mainGlobals "ValueError" = some none)
    (vVE : PySem.W.findCls K (.type "ValueError") (.type "type") "__init__" = some (.val (.builtin "ValueError.__init__")))
    (hn0 : PySem.W.specialIn K (.builtin "object.__class__") "__get__" = some (some (.builtin "getset_descriptor.__get__")))
    (ht0 : PySem.W.takesIn K (.builtin "object.__class__") = some true)
    (e_NoText : PySem.W.nsIn K mainGlobals "NoText" = some (some (.ref E_NoText)))
    (x_NoText : K.lookup E_NoText = some (excClassObj nm_NoText q_NoText E_NoText N_NoText bs_NoText [.ref R0, .type "ValueError", .type "Exception", .type "BaseException", .type "object"] true sn_NoText sub_NoText ab_NoText col_NoText dd_NoText k0_NoText k1_NoText k2_NoText k3_NoText k5_NoText "ValueError.__new__"))
    (a41 : PySem.W.findIn K (.ref E_NoText) "__init__" = some (some (.ref f41)))
    (l41 : K.lookup f41 = some ⟨oc41, od41, .func (PySem.W.fnOf "__init__" "NoText.__init__" (defArgs s_NoText__init) (defBody s_NoText__init) (defScope s_NoText__init) .none kV41 dc41 pm41 an41 cd41 ct41), sl41⟩)
    (c41 : PySem.W.codeIn K cd41 "NoText.__init__" = true)
    (k41 : PySem.W.keepIn K (.ref f41) = true)
    (t_NoText : PySem.W.typeIn K (.ref f41) = some (.type "function"))
    (sa_NoText : PySem.W.findIn K (.ref E_NoText) "__setattr__" = some (some (.builtin "object.__setattr__")))
    (be_NoText : PySem.W.subIn K (.ref E_NoText) (.type "BaseException") = some true)
    (ty_NoText : PySem.W.typeIn K (.ref E_NoText) = some (.type "type"))
    (kp_NoText : PySem.W.keepIn K (.ref E_NoText) = true)
    (wh_NoText : PySem.W.findIn K (.ref E_NoText) "what" = some none)
    (ga_NoText : PySem.W.findIn K (.ref E_NoText) "__getattribute__" = some (some (.builtin "BaseException.__getattribute__")))
    (gg_NoText : PySem.W.findIn K (.ref E_NoText) "__getattr__" = some none)
    (hd_NoText : PySem.W.hasDictIn K E_NoText = true)
    (ca_NoText : PySem.W.findIn K (.ref E_NoText) "__class__" = some (some (.builtin "object.__class__")))
    (mo_NoText : PySem.W.mroIn K E_NoText (.type "object") = some true)
    (em_NoText : PySem.W.exmOne K (.ref E_NoText) (.ref E_NoText) = some true)
    (q0_NoText : PySem.W.kitOne K (.ref E_NoText) (.ref R0) = some true)
    (q1_NoText : PySem.W.kitOne K (.ref E_NoText) (.type "ValueError") = some true)
    (o_NoDeed : PySem.W.nsIn K mainGlobals "NoDeed" = some (some (.ref A_NoDeed)))
    (o_NoMachine : PySem.W.nsIn K mainGlobals "NoMachine" = some (some (.ref A_NoMachine)))
    (o_NoRing : PySem.W.nsIn K mainGlobals "NoRing" = some (some (.ref A_NoRing)))
    (o_NoRow : PySem.W.nsIn K mainGlobals "NoRow" = some (some (.ref A_NoRow)))
    (o_NoSegment : PySem.W.nsIn K mainGlobals "NoSegment" = some (some (.ref A_NoSegment)))
    (o_NoWish : PySem.W.nsIn K mainGlobals "NoWish" = some (some (.ref A_NoWish)))
    (o_TooMany : PySem.W.nsIn K mainGlobals "TooMany" = some (some (.ref A_TooMany)))
    (o_Unlike : PySem.W.nsIn K mainGlobals "Unlike" = some (some (.ref A_Unlike)))
    (q2 : PySem.W.kitAny K (.ref E_NoText) [.ref A_NoDeed, .ref A_NoMachine, .ref A_NoRing, .ref A_NoRow, .ref A_NoSegment, .ref A_NoWish, .ref A_TooMany, .ref A_Unlike] = some false) :
    ∃ fd : FuncData, (∀ (s : Shared) (v : Value), BindsTo s fd ⟨[v], []⟩ [("script", v)]) ∧ ∀ base : Heap, K.In base → base.Ns mainGlobals mg → FnOk l.prog w K mg base CX0 9 fa fd ["script"] (spLaw K) := by
  have F_is_number := fun_mk (st := s_is_number) l1 c1 k1
  have m_is_number := PySem.W.mg_of X G a1
  have F_number_of := fun_mk (st := s_number_of) l2 c2 k2
  have m_number_of := PySem.W.mg_of X G a2
  have F_row_of := fun_mk (st := s_row_of) l3 c3 k3
  have m_row_of := PySem.W.mg_of X G a3
  have F_read_deeds := fun_mk (st := s_read_deeds) l4 c4 k4
  have m_read_deeds := PySem.W.mg_of X G a4
  have F_law_tray := fun_mk (st := s_law_tray) l5 c5 k5
  have m_law_tray := PySem.W.mg_of X G a5
  have F_law_draw := fun_mk (st := s_law_draw) l6 c6 k6
  have m_law_draw := PySem.W.mg_of X G a6
  have F_law_great := fun_mk (st := s_law_great) l7 c7 k7
  have m_law_great := PySem.W.mg_of X G a7
  have F_law_number := fun_mk (st := s_law_number) l8 c8 k8
  have m_law_number := PySem.W.mg_of X G a8
  have F_law_row := fun_mk (st := s_law_row) l9 c9 k9
  have m_law_row := PySem.W.mg_of X G a9
  have F_law_row_shown := fun_mk (st := s_law_row_shown) l10 c10 k10
  have m_law_row_shown := PySem.W.mg_of X G a10
  have F_law_sign := fun_mk (st := s_law_sign) l11 c11 k11
  have m_law_sign := PySem.W.mg_of X G a11
  have F_law_sign_spoilt := fun_mk (st := s_law_sign_spoilt) l12 c12 k12
  have m_law_sign_spoilt := PySem.W.mg_of X G a12
  have F_law_whole_of := fun_mk (st := s_law_whole_of) l13 c13 k13
  have m_law_whole_of := PySem.W.mg_of X G a13
  have F_law_number_of := fun_mk (st := s_law_number_of) l14 c14 k14
  have m_law_number_of := PySem.W.mg_of X G a14
  have F_law_row_of := fun_mk (st := s_law_row_of) l15 c15 k15
  have m_law_row_of := PySem.W.mg_of X G a15
  have F_law_spoilt := fun_mk (st := s_law_spoilt) l16 c16 k16
  have m_law_spoilt := PySem.W.mg_of X G a16
  have F_law_deeds_of := fun_mk (st := s_law_deeds_of) l17 c17 k17
  have m_law_deeds_of := PySem.W.mg_of X G a17
  have F_law_alike := fun_mk (st := s_law_alike) l18 c18 k18
  have m_law_alike := PySem.W.mg_of X G a18
  have F_law := fun_mk (st := s_law) l19 c19 k19
  have m_law := PySem.W.mg_of X G a19
  have G_MOST_FIGURES : GI mg "MOST_FIGURES" 60 := ⟨_, PySem.W.mg_of X G g20⟩
  have G_NOTHING : GS mg "NOTHING" "-" := ⟨_, PySem.W.mg_of X G g21⟩
  have G_FIGURES : GS mg "FIGURES" "0123456789" := ⟨_, PySem.W.mg_of X G g22⟩
  have B : BT mg := ⟨PySem.W.mg_none_of X G z23, PySem.W.mg_none_of X G z24, PySem.W.mg_none_of X G z25, PySem.W.mg_none_of X G z26, PySem.W.mg_none_of X G z27, PySem.W.mg_none_of X G z28, PySem.W.mg_none_of X G z29, PySem.W.mg_none_of X G z30, PySem.W.mg_none_of X G z31, PySem.W.mg_none_of X G z32, PySem.W.mg_none_of X G z33, PySem.W.mg_none_of X G z34, PySem.W.mg_none_of X G z35, PySem.W.mg_none_of X G z36, PySem.W.mg_none_of X G z37, PySem.W.mg_none_of X G z38, PySem.W.mg_none_of X G z39⟩
  have G_ROW_FORMS : GFo K w mg := by
    refine ⟨R, PySem.W.mg_of X G aR, ⟨_, _, lR⟩, fun z l h => ?_⟩
    have hm := form_mem h
    simp only [rowForms, List.mem_cons, List.mem_nil_iff, or_false, Prod.mk.injEq] at hm
    rcases hm with ⟨rfl, rfl⟩ | ⟨rfl, rfl⟩ | ⟨rfl, rfl⟩ | ⟨rfl, rfl⟩ | ⟨rfl, rfl⟩ | ⟨rfl, rfl⟩ | ⟨rfl, rfl⟩ | ⟨rfl, rfl⟩ | ⟨rfl, rfl⟩ | ⟨rfl, rfl⟩ | ⟨rfl, rfl⟩ | ⟨rfl, rfl⟩
    · exact ⟨_, _, _, lR, kR, sR, r0, ⟨_, rfl⟩⟩
    · exact ⟨_, _, _, lR, kR, sR, r1, ⟨_, rfl⟩⟩
    · exact ⟨_, _, _, lR, kR, sR, r2, ⟨_, rfl⟩⟩
    · exact ⟨_, _, _, lR, kR, sR, r3, ⟨_, rfl⟩⟩
    · exact ⟨_, _, _, lR, kR, sR, r4, ⟨_, rfl⟩⟩
    · exact ⟨_, _, _, lR, kR, sR, r5, ⟨_, rfl⟩⟩
    · exact ⟨_, _, _, lR, kR, sR, r6, ⟨_, rfl⟩⟩
    · exact ⟨_, _, _, lR, kR, sR, r7, ⟨_, rfl⟩⟩
    · exact ⟨_, _, _, lR, kR, sR, r8, ⟨_, rfl⟩⟩
    · exact ⟨_, _, _, lR, kR, sR, r9, ⟨_, rfl⟩⟩
    · exact ⟨_, _, _, lR, kR, sR, r10, ⟨_, rfl⟩⟩
    · exact ⟨_, _, _, lR, kR, sR, r11, ⟨_, rfl⟩⟩
  have F_RE := fun_mk (st := s_RingError__init) l40 c40 k40
  have gVE := PySem.W.mg_none_of X G gVE0
  have N0 := PySem.W.mg_of X G eR0
  have bRE := F_RE.binds (ps := ["self", "what"]) fun _ _ _ _ _ _ us hl => match us, hl with | [_, _], _ => rfl
  have U_RE : UbC K mg "RingError" "__init__" f40 := ⟨R0, mcR, PySem.W.mg_of X G eR0, rg0, rg1, rg2, rg3, k40⟩
  have F_NoText := fun_mk (st := s_NoText__init) l41 c41 k41
  have b_NoText := F_NoText.binds (ps := ["self", "what"]) fun _ _ _ _ _ _ us hl => match us, hl with | [_, _], _ => rfl
  have xf_NoText : XfC K E_NoText := ⟨ga_NoText, gg_NoText, be_NoText, hd_NoText⟩
  have XI_NoText : ExI K E_NoText := ⟨xf_NoText, ca_NoText, hn0, ht0, mo_NoText⟩
  have ox_NoText : OexC K E_NoText := ⟨⟨_, _, _, _, _, _, _, _, _, _, _, _, _, _, _, x_NoText, by rfl⟩, sa_NoText, be_NoText, ty_NoText, kp_NoText⟩
  have N_NoDeed := PySem.W.mg_of X G o_NoDeed
  have N_NoMachine := PySem.W.mg_of X G o_NoMachine
  have N_NoRing := PySem.W.mg_of X G o_NoRing
  have N_NoRow := PySem.W.mg_of X G o_NoRow
  have N_NoSegment := PySem.W.mg_of X G o_NoSegment
  have N_NoWish := PySem.W.mg_of X G o_NoWish
  have N_TooMany := PySem.W.mg_of X G o_TooMany
  have N_Unlike := PySem.W.mg_of X G o_Unlike
  have e := hfa.symm.trans m_law
  cases e
  refine ⟨PySem.W.fnOf "law" "law" (defArgs s_law) (defBody s_law) (defScope s_law) .none kV19 dc19 pm19 an19 cd19 ct19, fun s v => .of_eq rfl, fun base _ _ => ?_⟩
  have reS := ok_REinitS (P := l.prog) (w := w) (base := base) F_RE gVE vVE
  have reH := hot_REinitS (P := l.prog) (w := w) (base := base) F_RE gVE vVE
  have X_NT : ExkT l.prog w K mg base "NoText" E_NoText := ⟨ox_NoText, wh_NoText, PySem.W.mg_of X G e_NoText, xf_NoText, _, _, a41, t_NoText, b_NoText, ok_NoTextS (P := l.prog) (w := w) (base := base) U_RE reS bRE F_NoText, hot_NoTextS (P := l.prog) (w := w) (base := base) U_RE reH bRE F_NoText⟩
  have FX : GFoX K w mg := fo_at (PySem.W.mg_of X G aR) lR kR sR eR
  have r1 := ok_is_number (P := l.prog) (w := w) (base := base) B F_is_number m_is_number G_FIGURES
  have r2 := ok_number_ofX (P := l.prog) (w := w) (base := base) B F_number_of m_number_of X_NT G_MOST_FIGURES r1
  have r3 := ok_row_ofX (P := l.prog) (w := w) (base := base) B F_row_of m_row_of X_NT FX r2
  have r4 := ok_read_deedsX (P := l.prog) (w := w) (base := base) B F_read_deeds m_read_deeds X_NT em_NoText G_NOTHING r3
  have d1 := ok_tray (P := l.prog) (w := w) (base := base) B F_law_tray m_law_tray
  have d2 := ok_draw (P := l.prog) (w := w) (base := base) F_law_draw m_law_draw
  have d3 := ok_great (P := l.prog) (w := w) (base := base) B F_law_great m_law_great d2
  have d5 := ok_number (P := l.prog) (w := w) (base := base) B F_law_number m_law_number d2 d3
  have d6 := ok_rowN (P := l.prog) (w := w) (base := base) B F_law_row m_law_row d2 d5
  have d8 := ok_row_shown (P := l.prog) (w := w) (base := base) B F_law_row_shown m_law_row_shown
  have d9 := ok_alike (P := l.prog) (w := w) (base := base) B F_law_alike m_law_alike 4
  have s1 := ok_sign (P := l.prog) (w := w) (base := base) B F_law_sign m_law_sign d2
  have s2 := ok_sign_spoilt (P := l.prog) (w := w) (base := base) B F_law_sign_spoilt m_law_sign_spoilt d2 s1
  have s3 := ok_spoilt (P := l.prog) (w := w) (base := base) B F_law_spoilt m_law_spoilt d2 s2
  have w1 := ok_whole_of (P := l.prog) (w := w) (base := base) B F_law_whole_of m_law_whole_of
  have w2 := ok_number_ofL (P := l.prog) (w := w) (base := base) B F_law_number_of m_law_number_of w1
  have w3 := ok_row_ofL (P := l.prog) (w := w) (base := base) B F_law_row_of m_law_row_of w2
  have w4 := ok_deeds_ofL (P := l.prog) (w := w) (base := base) B F_law_deeds_of m_law_deeds_of w3
  exact ok_law B F_law X_NT XI_NoText N0 gVE N_NoDeed N_NoMachine N_NoRing N_NoRow N_NoSegment N_NoWish N_TooMany N_Unlike em_NoText q0_NoText q1_NoText q2 r4 d1 d2 d6 d8 s3 w4 d9
theorem walk {l : PySem.W.OpenLaw} {q : Program} {loose : List Str} {XP : (Str → Option Value) → Heap → Prop} {YP : World → Heap → Prop} {d : DefRec} {K : Params → PySem.W.Frag} (hn : l.most = some 63) (hdf : d.params.defaults = [])
    (hY : ∀ (w : World) (h : Heap), YP w h → (K w.params).In h)
    (F : ∀ (w : World) (mg : Str → Option Value) (fa : Addr) (h : Heap), (K w.params).In h → h.Ns mainGlobals mg → mg d.name = some (.ref fa) →
      ∃ fd : FuncData, (∀ (s : Shared) (u : Value), BindsTo s fd ⟨[u], []⟩ [("script", u)]) ∧ ∀ base : Heap, (K w.params).In base → base.Ns mainGlobals mg → FnOk l.prog w (K w.params) mg base CX0 9 fa fd ["script"] (spLaw (K w.params))) :
    PySem.W.WalkO q loose XP YP l.row.toRowW d [] (fun f vs => PySem.call f vs) :=
  L2.walk_of (n := 63) (k := 9) (x := "script") (CX := fun _ => CX0) (sp := fun w => spLaw (K w.params)) hn (by decide) hdf ⟨rfl, by decide, by decide⟩ hY F (fun _ _ a ns hl _ hS => ⟨a, ns, rfl, hS, hl, fun _ => rfl⟩) fun _ _ _ _ _ z => z
end Rg

open PySem PySem.W PyProof.Rows
set_option maxRecDepth 100000 in
set_option maxHeartbeats 0 in
theorem PySem.Challenge.cw_ringgates_k53_texts_of_no_deeds_holds : PySem.Challenge.rw_ringgates_k53_texts_of_no_deeds.Holds := by
  w_on; o_law; k_head; (case hw => w_witness2)
  k_fill
  refine Rg.walk (l := PySem.Challenge.rw_ringgates_k53_texts_of_no_deeds) rfl rfl (fun w h Y => PySem.W.kIn_of Y) ?F
  case F =>
    intro w mg fa h KX G hmg
    refine' Rg.all_mk KX G hmg ?a1 ?l1 ?c1 ?k1 ?a2 ?l2 ?c2 ?k2 ?a3 ?l3 ?c3 ?k3 ?a4 ?l4 ?c4 ?k4 ?a5 ?l5 ?c5 ?k5 ?a6 ?l6 ?c6 ?k6 ?a7 ?l7 ?c7 ?k7 ?a8 ?l8 ?c8 ?k8 ?a9 ?l9 ?c9 ?k9 ?a10 ?l10 ?c10 ?k10 ?a11 ?l11 ?c11 ?k11 ?a12 ?l12 ?c12 ?k12 ?a13 ?l13 ?c13 ?k13 ?a14 ?l14 ?c14 ?k14 ?a15 ?l15 ?c15 ?k15 ?a16 ?l16 ?c16 ?k16 ?a17 ?l17 ?c17 ?k17 ?a18 ?l18 ?c18 ?k18 ?a19 ?l19 ?c19 ?k19 ?g20 ?g21 ?g22 ?z23 ?z24 ?z25 ?z26 ?z27 ?z28 ?z29 ?z30 ?z31 ?z32 ?z33 ?z34 ?z35 ?z36 ?z37 ?z38 ?z39 ?aR ?lR ?kR ?sR ?r0 ?r1 ?r2 ?r3 ?r4 ?r5 ?r6 ?r7 ?r8 ?r9 ?r10 ?r11 ?eR ?eR0 ?a40 ?l40 ?c40 ?k40 ?rg0 ?rg1 ?rg2 ?rg3 ?gVE0 ?vVE ?hn0 ?ht0 ?e_NoText ?x_NoText ?a41 ?l41 ?c41 ?k41 ?t_NoText ?sa_NoText ?be_NoText ?ty_NoText ?kp_NoText ?wh_NoText ?ga_NoText ?gg_NoText ?hd_NoText ?ca_NoText ?mo_NoText ?em_NoText ?q0_NoText ?q1_NoText ?o_NoDeed ?o_NoMachine ?o_NoRing ?o_NoRow ?o_NoSegment ?o_NoWish ?o_TooMany ?o_Unlike ?q2
    (case a1 => k_is)
    (case l1 => k_is)
    (case c1 => k_is)
    (case k1 => k_is)
    (case a2 => k_is)
    (case l2 => k_is)
    (case c2 => k_is)
    (case k2 => k_is)
    (case a3 => k_is)
    (case l3 => k_is)
    (case c3 => k_is)
    (case k3 => k_is)
    (case a4 => k_is)
    (case l4 => k_is)
    (case c4 => k_is)
    (case k4 => k_is)
    (case a5 => k_is)
    (case l5 => k_is)
    (case c5 => k_is)
    (case k5 => k_is)
    (case a6 => k_is)
    (case l6 => k_is)
    (case c6 => k_is)
    (case k6 => k_is)
    (case a7 => k_is)
    (case l7 => k_is)
    (case c7 => k_is)
    (case k7 => k_is)
    (case a8 => k_is)
    (case l8 => k_is)
    (case c8 => k_is)
    (case k8 => k_is)
    (case a9 => k_is)
    (case l9 => k_is)
    (case c9 => k_is)
    (case k9 => k_is)
    (case a10 => k_is)
    (case l10 => k_is)
    (case c10 => k_is)
    (case k10 => k_is)
    (case a11 => k_is)
    (case l11 => k_is)
    (case c11 => k_is)
    (case k11 => k_is)
    (case a12 => k_is)
    (case l12 => k_is)
    (case c12 => k_is)
    (case k12 => k_is)
    (case a13 => k_is)
    (case l13 => k_is)
    (case c13 => k_is)
    (case k13 => k_is)
    (case a14 => k_is)
    (case l14 => k_is)
    (case c14 => k_is)
    (case k14 => k_is)
    (case a15 => k_is)
    (case l15 => k_is)
    (case c15 => k_is)
    (case k15 => k_is)
    (case a16 => k_is)
    (case l16 => k_is)
    (case c16 => k_is)
    (case k16 => k_is)
    (case a17 => k_is)
    (case l17 => k_is)
    (case c17 => k_is)
    (case k17 => k_is)
    (case a18 => k_is)
    (case l18 => k_is)
    (case c18 => k_is)
    (case k18 => k_is)
    (case a19 => k_is)
    (case l19 => k_is)
    (case c19 => k_is)
    (case k19 => k_is)
    (case g20 => k_is)
    (case g21 => k_is)
    (case g22 => k_is)
    (case z23 => k_is)
    (case z24 => k_is)
    (case z25 => k_is)
    (case z26 => k_is)
    (case z27 => k_is)
    (case z28 => k_is)
    (case z29 => k_is)
    (case z30 => k_is)
    (case z31 => k_is)
    (case z32 => k_is)
    (case z33 => k_is)
    (case z34 => k_is)
    (case z35 => k_is)
    (case z36 => k_is)
    (case z37 => k_is)
    (case z38 => k_is)
    (case z39 => k_is)
    (case aR => k_is)
    (case lR => k_is)
    (case kR => ((repeat (refine ⟨⟨_, _, rfl, rfl⟩, ?_⟩)); trivial))
    (case sR => rfl)
    (case r0 => k_is)
    (case r1 => k_is)
    (case r2 => k_is)
    (case r3 => k_is)
    (case r4 => k_is)
    (case r5 => k_is)
    (case r6 => k_is)
    (case r7 => k_is)
    (case r8 => k_is)
    (case r9 => k_is)
    (case r10 => k_is)
    (case r11 => k_is)
    (case eR => ((repeat (refine ⟨⟨⟨_, rfl⟩, ⟨_, rfl⟩⟩, ?_⟩)); trivial))
    (case eR0 => k_is)
    (case a40 => k_is)
    (case l40 => k_is)
    (case c40 => k_is)
    (case k40 => k_is)
    (case rg0 => k_is)
    (case rg1 => k_is)
    (case rg2 => k_is)
    (case rg3 => k_is)
    (case gVE0 => k_is)
    (case vVE => k_is)
    (case hn0 => k_is)
    (case ht0 => k_is)
    (case e_NoText => k_is)
    (case x_NoText => k_is)
    (case a41 => k_is)
    (case l41 => k_is)
    (case c41 => k_is)
    (case k41 => k_is)
    (case t_NoText => k_is)
    (case sa_NoText => k_is)
    (case be_NoText => k_is)
    (case ty_NoText => k_is)
    (case kp_NoText => k_is)
    (case wh_NoText => k_is)
    (case ga_NoText => k_is)
    (case gg_NoText => k_is)
    (case hd_NoText => k_is)
    (case ca_NoText => k_is)
    (case mo_NoText => k_is)
    (case em_NoText => first | k_is | rfl)
    (case q0_NoText => first | k_is | rfl)
    (case q1_NoText => first | k_is | rfl)
    (case o_NoDeed => k_is)
    (case o_NoMachine => k_is)
    (case o_NoRing => k_is)
    (case o_NoRow => k_is)
    (case o_NoSegment => k_is)
    (case o_NoWish => k_is)
    (case o_TooMany => k_is)
    (case o_Unlike => k_is)
    (case q2 => first | k_is | rfl)

