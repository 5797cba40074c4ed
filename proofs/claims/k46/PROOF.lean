import PyProof.Rows.All
import Wide.All
import OpenK.AllK
import Wide.FinOn
import HandS.ForMost
import HandS.Zip
import KE.GoesNew
import HandS.More
import HandS.WrittenGet
import HandS.Walk
import HandS.Wide
import HandS.IsInst
import HandS.Defaults
import HandS.MakeKwOnly
import HandS.EndBits
import HandS.ForExc
import HandS.ExcInit
import HandS.ExcField
import HandS.ExcOwn
import HandS.WordsExc
import HandS.FStr
import HandS.TryOnly
import KE.KExcIs
import HandS.TupAny
import HandS.TupMul
import PyProof.SumAnyB
import KE.GoesEnum
import HandS.ExcSuper
import HandS.ExcCtx
import HandS.HotCalls
import HandS.Star
import HandS.CallLocal
import PyProof.ExcBaseAll.Exception
import HandS.Flt
import HandS.Small
import HandS.FStrTup
import HandS.ExcValue
import KE.KDictKeyed
import KE.KDictDisplayH
import HandS.DictComp
import HandS.Iter
import KE.DataMinMax
import KE.SortData
import HandS.Style
import HandS.SetFor
import HandS.Comp
import HandS.Deep
import PySem.Challenge.RW_ringgates_k46_least_openings
set_option Elab.async false
set_option maxRecDepth 100000
set_option maxHeartbeats 2000000
/-! for a, b in zip(text, tuple): the pairs are new tuples -/
namespace Rg
open PySem PySem.Spec PyProof.Rows L2
/-- the text's signs and the tuple's items, side by side -/
def ItzS (K : PySem.W.Frag) (x : PySem.Str) (b : Addr) : It :=
  ⟨fun i H => ∃ (ys : List V) (c : Nat) (y : V), SqT K H b ys ∧ x.cps[i]? = some c ∧ ys[i]? = some y,
    fun i H v H' => ∃ T c y, v = .ref T ∧ H T = none ∧ H' = upd H T (.tup [.str ⟨#[c]⟩, y]) ∧ x.cps[i]? = some c ∧ ∀ ys, SqT K H b ys → ys[i]? = some y,
    fun i H => ∃ ys : List V, SqT K H b ys ∧ i = min x.cps.size ys.length⟩
theorem turn_zipS {P : Program} {w : World} {K : PySem.W.Frag} {elts : List Expr} {kk : Nat} {tpos : Pos} {x : PySem.Str} {t : Tok} {b z TI TO i1 i2 : Addr} (hb : b ≠ z ∧ b ≠ TI ∧ b ≠ TO ∧ b ≠ i1 ∧ b ≠ i2)
    (S : ZipSep2 z TI TO i1 i2 [i1] [i2, b]) :
    Turn P w K (.Tuple elts kk tpos) (ItzS K x b) [z, TI, TO, i1, i2] z (fun i h => IsZip h z TI TO .none ∧ IsTupOf2 h TI (.ref i1) (.ref i2) ∧ (∃ a1 a2, IsTupOf2 h TO a1 a2) ∧ h.IsStrIter i1 (strIterType x) x t i ∧ h.IsTupleIter i2 b i) where
  mem := by simp
  obj := fun i h st c hc => by
    obtain ⟨hz, hTI, ⟨u, y, hTO⟩, ⟨o1, e1, _, d1⟩, ⟨o2, e2, _, d2⟩⟩ := st
    have e' : c = z ∨ c = TI ∨ c = TO ∨ c = i1 ∨ c = i2 := by simpa using hc
    rcases e' with q | q | q | q | q
    · rw [q]; exact ⟨_, hz, fun v q => nomatch q⟩
    · rw [q]; exact ⟨_, hTI, fun v q => nomatch q⟩
    · rw [q]; exact ⟨_, hTO, fun v q => nomatch q⟩
    · rw [q]; exact ⟨o1, e1, fun v q => by rw [d1] at q; cases q⟩
    · rw [q]; exact ⟨o2, e2, fun v q => by rw [d2] at q; cases q⟩
  keep := fun i h h' st k => by
    obtain ⟨hz, hTI, ⟨u, y, hTO⟩, h1, h2⟩ := st
    obtain ⟨o1, e1, r1⟩ := h1
    exact ⟨k z (by simp) _ hz, k TI (by simp) _ hTI, ⟨u, y, k TO (by simp) _ hTO⟩, ⟨o1, k i1 (by simp) _ e1, r1⟩, h2.at fun o q => k i2 (by simp) o q⟩
  item := by
    intro X hP hw hK hc i pins s σ H E I hf st hg
    subst hP hw hK
    obtain ⟨hz, hTI, ⟨x0, y0, hTO⟩, h1, h2⟩ := st
    obtain ⟨ys, c, y, hqy, hx, hy⟩ := hg
    obtain ⟨its2, rv2, p2, _⟩ := I.tuple hqy
    have hne : b ≠ i2 := hb.2.2.2.2
    have hh : X.A.in1.handled = none := I.ok.hd hc
    have W := GoesN.zip2 (elts := elts) (x1 := kk) (pos := tpos) S (Draws.text hh i1 x t) (Draws.tuple hh i2 b hne its2.toArray) (prog := X.prog) (w := X.w) (A := X.A)
    have hlen : i < min x.cps.size its2.toArray.size := by
      have a1 : i < x.cps.size := (Array.getElem?_eq_some_iff.mp hx).1
      have a2 : i < ys.length := (List.getElem?_eq_some_iff.mp hy).1
      have a3 := rv2.length
      have a4 : its2.toArray.size = its2.length := List.size_toArray ..
      omega
    refine W.goes i s _ _ hlen ⟨hz, hTI, ⟨x0, y0, hTO⟩, h1, h2, p2⟩ fun v h' tk hY st' hk htk => ?_
    obtain ⟨T, u1, u2, rfl, hT, ⟨c', tk', hc', rfl⟩, hu2, hTup⟩ := hY
    obtain ⟨z', TI', TO', h1', h2', p2'⟩ := st'
    have ec : c' = c := Option.some.inj (hc'.symm.trans hx)
    subst ec
    obtain ⟨v2, hv2, rv⟩ := rv2.get hy
    have e2 : u2 = v2 := by
      rw [List.getElem?_toArray] at hu2
      exact Option.some.inj (hu2.symm.trans hv2)
    subst e2
    have new : ObjOk X.prog X.w (upd H T (.tup [.str ⟨#[c']⟩, y])) h' T (.tup [.str ⟨#[c']⟩, y]) :=
      ⟨by show 2 ≤ sizeLine; decide, [.str ⟨#[c']⟩ tk', u2], .cons ⟨_, rfl⟩ (.cons rv .nil), hTup⟩
    have hf' : ∀ c ∈ [z, TO, i1, i2], FpOk X pins H c := fun c hcm => hf c (by simp at hcm ⊢; rcases hcm with q | q | q | q <;> simp [q])
    have I1 : Inv X pins σ (upd H T (.tup [.str ⟨#[c']⟩, y])) { s with heap := h', toks := tk } := I.turnedNew (t' := tk) (ch := [z, TO, i1, i2]) hk hf' hT new
    refine ⟨.ref T, _, I1, rfl, ⟨T, c', y, rfl, I.hok.fresh hT, rfl, hx, fun l hl => by rw [I.tuple_inj hl hqy]; exact hy⟩, ⟨z', TI', TO', h1', h2'⟩, fun d hd => ?_⟩
    have hlt : d < s.heap.objs.size := by
      have e' : d = z ∨ d = TI ∨ d = TO ∨ d = i1 ∨ d = i2 := by simpa using hd
      rcases e' with q | q | q | q | q
      · rw [q]; exact Heap.lt_size hz
      · rw [q]; exact Heap.lt_size hTI
      · rw [q]; exact Heap.lt_size hTO
      · rw [q]; obtain ⟨_, e1, _⟩ := h1; exact Heap.lt_size e1
      · rw [q]; obtain ⟨_, e2, _⟩ := h2; exact Heap.lt_size e2
    rw [upd_ne (Nat.ne_of_lt (Nat.lt_of_lt_of_le hlt hT))]
    exact (hf d hd).1
  done := by
    intro X hP hw hK hc i pins s σ H E I hf st hg
    subst hP hw hK
    obtain ⟨hz, hTI, ⟨x0, y0, hTO⟩, h1, h2⟩ := st
    obtain ⟨ys, hqy, hi⟩ := hg
    obtain ⟨its2, rv2, p2, _⟩ := I.tuple hqy
    have hne : b ≠ i2 := hb.2.2.2.2
    have hh : X.A.in1.handled = none := I.ok.hd hc
    have W := GoesN.zip2 (elts := elts) (x1 := kk) (pos := tpos) S (Draws.text hh i1 x t) (Draws.tuple hh i2 b hne its2.toArray) (prog := X.prog) (w := X.w) (A := X.A)
    have e : i = min x.cps.size its2.toArray.size := by
      have a4 : its2.toArray.size = its2.length := List.size_toArray ..
      rw [a4, ← rv2.length]
      exact hi
    subst e
    have hf' : ∀ c ∈ [z, TO, i1, i2], FpOk X pins H c := fun c hcm => hf c (by simp at hcm ⊢; rcases hcm with q | q | q | q <;> simp [q])
    exact W.stops s _ _ ⟨hz, hTI, ⟨x0, y0, hTO⟩, h1, h2, p2⟩ fun h' tk hk htk => I.turnedL (t' := tk) (ch := [z, TO, i1, i2]) hk hf'
  self := fun A i s Q E st h => wpAny_pyIter_zip st.1 h

def iZipS (K : PySem.W.Frag) (ta : TA) : TI := fun σ H R => ta σ H fun vs H1 => ∃ (x : PySem.Str) (b : Addr) (ys : List V), vs = [.str x, .ref b] ∧ SqT K H1 b ys ∧ R (ItzS K x b) H1
theorem pi_zipS {X : Cx} {e e2 : Expr} {ta : TA} {p pos tpos : Pos} {elts : List Expr} {kk : Nat} (hg : Gl X "zip") (hm : X.mg "zip" = none) (ha : PA X [e, e2] ta)
    (hs : starEach [e, e2] X.env = (false, eval e X.env) :: starEach [e2] X.env := by rfl) (hpl : (backTo pos (starEach [e2] X.env)).any (·.1) = false := by rfl) :
    PI X (.Tuple elts kk tpos) (.Call (.Name "zip" p) [e, e2] [] pos) (iZipS X.K ta) := by
  refine ⟨fun pins s σ H R I h => ?_⟩
  refine Call_ (ld_blt I hg hm PyProof.Rows.boot_zip (PyProof.Rows.callWith_type1 (thn (ha.run pos pins s σ H _ I h) fun us s1 ⟨vs, H1, I1, r1, q1⟩ => ?_) hs hpl))
  obtain ⟨x, b, ys, ex, hqy, q⟩ := q1
  subst ex
  cases r1 with
  | cons r rr =>
    cases rr with
    | cons r' rr =>
      cases rr
      obtain ⟨t, rfl⟩ := r
      cases r'
      have fresh5 : ∀ c, c ∈ [s1.heap.objs.size + 4, s1.heap.objs.size + 2, s1.heap.objs.size + 3, s1.heap.objs.size, s1.heap.objs.size + 1] → FpOk X pins H1 c := fun c hcm => by
        have e' : c = s1.heap.objs.size + 4 ∨ c = s1.heap.objs.size + 2 ∨ c = s1.heap.objs.size + 3 ∨ c = s1.heap.objs.size ∨ c = s1.heap.objs.size + 1 := by simpa using hcm
        have hle : s1.heap.objs.size ≤ c := by
          rcases e' with z | z | z | z | z
          · rw [z]; exact Nat.le_add_right _ _
          · rw [z]; exact Nat.le_add_right _ _
          · rw [z]; exact Nat.le_add_right _ _
          · rw [z]; exact Nat.le_refl _
          · rw [z]; exact Nat.le_add_right _ _
        exact I1.fpOk hle (I1.hok.fresh hle)
      obtain ⟨its2, rv2, p2, _⟩ := I1.tuple hqy
      obtain ⟨o2, ho2, _⟩ := id p2
      have hb : b < s1.heap.objs.size := Heap.lt_size ho2
      refine zip_begins2 (begins_text x t) (begins_tuple b its2.toArray) trivial p2 fun h' hz hTI hTO h1 h2 hsz hk => wpAny_pyIter_zip hz ?_
      have I2 : Inv X pins σ H1 { s1 with heap := h' } := I1.kept (t' := s1.toks) hk
      have S : ZipSep2 (s1.heap.objs.size + 4) (s1.heap.objs.size + 2) (s1.heap.objs.size + 3) s1.heap.objs.size (s1.heap.objs.size + 1) [s1.heap.objs.size] [s1.heap.objs.size + 1, b] :=
        zip_sep2 (fp1 := []) (fp2 := [b]) (fun c hc => by cases hc) (fun c hc => by
          have e : c = b := by simpa using hc
          rw [e]; exact hb)
      exact ⟨s1.heap.objs.size + 4, [s1.heap.objs.size + 4, s1.heap.objs.size + 2, s1.heap.objs.size + 3, s1.heap.objs.size, s1.heap.objs.size + 1], _, _, H1, rfl, I2,
        turn_zipS (t := t) ⟨Nat.ne_of_lt (Nat.lt_of_lt_of_le hb (Nat.le_add_right _ _)), Nat.ne_of_lt (Nat.lt_of_lt_of_le hb (Nat.le_add_right _ _)), Nat.ne_of_lt (Nat.lt_of_lt_of_le hb (Nat.le_add_right _ _)), Nat.ne_of_lt hb, Nat.ne_of_lt (Nat.lt_of_lt_of_le hb (Nat.le_add_right _ _))⟩ S,
        ⟨hz, hTI, ⟨_, _, hTO⟩, ⟨_, h1, rfl, rfl⟩, ⟨_, h2, rfl, rfl⟩⟩, fresh5, q⟩
end Rg

/-! d.get(text), d a dict that the top has written -/
namespace Rg
open PySem PySem.Spec PyProof.Rows L2
/-- the dict's row, and what it has at the text -/
def KGot (K : PySem.W.Frag) (w : World) (a : Addr) (x : PySem.Str) (o : Option V) : Prop :=
  ∃ es n r, K.lookup a = some ⟨.type "dict", none, .dict es n, #[]⟩ ∧ PySem.W.KeysLit w.params es.toList ∧ (a == sysModules) = false ∧ PySem.W.nsIn K a x = some r ∧ RelV (o.getD .non) (r.getD .none)
def KIsD (K : PySem.W.Frag) (a : Addr) : Prop := ∃ es n, K.lookup a = some ⟨.type "dict", none, .dict es n, #[]⟩
theorem KGot.isD {K : PySem.W.Frag} {w : World} {a : Addr} {x : PySem.Str} {o : Option V} (h : KGot K w a x o) : KIsD K a := by
  obtain ⟨es, n, r, e, _⟩ := h
  exact ⟨es, n, e⟩
def tKGet (K : PySem.W.Frag) (w : World) (td ty : TE) : TE := fun σ H Q => td σ H fun x H1 => ∃ a, x = .ref a ∧ KIsD K a ∧ ty σ H1 fun y H2 => ∃ z o, y = .str z ∧ KGot K w a z o ∧ Q (o.getD .non) H2
section
variable {X : Cx} {o e : Expr} {apos cpos : Pos} {td ty : TE}
theorem pe_kget (ho : PE X o td) (he : PE X e ty) (m : M1 X o "get" apos e cpos) : PE X (.Call (.Attribute o "get" apos) [e] [] cpos) (tKGet X.K X.w td ty) := by
  refine ⟨fun pins s σ H Q I h => ?_⟩
  refine wpAny_Call_method m.base m.few m.line PySem.F.plainAttrs_dict PySem.F.slot_dict_get PySem.F.type_dict_get (thn (ho.run pins s σ H _ I h) fun u s1 ⟨x, H1, I1, rx, a, ex, d, q1⟩ => ?_)
  subst ex
  obtain rfl : u = Value.ref a := rx
  obtain ⟨es, n, hl⟩ := d
  have hg := I1.kIn _ _ hl
  refine ⟨⟨_, hg, rfl⟩, fun b q => ?_, ?_⟩
  · cases q
    exact ⟨_, hg, rfl⟩
  rw [m.trees]
  refine Calls.callWith_builtin rfl (Calls.evalArgs_plain (Calls.spliced_cons (thn (he.run pins s1 σ H1 _ I1 q1) fun iv s2 ⟨y, H2, I2, ry, z, ov, ey, g, q2⟩ => Calls.spliced_nil ?_)))
  subst ey
  obtain ⟨t, rfl⟩ := (show ∃ t, iv = Value.str z t from ry)
  obtain ⟨es', n', r, hl', hk, low, hn, rr⟩ := g
  have hm := PySem.W.mapOf_K (prog := X.prog) (w := X.w) I2.kIn hl' hk
  refine call_meetsIn PySem.F.slot_dict_get hm.typeIs PySem.F.entry_dict_get (PySem.F.args_dict_get_2 _ _) (meets_dict_get (strKind X.prog X.w) a (strKind_is X.prog X.w z t) low) ⟨_, hm, ?_⟩
  rw [PySem.W.find_K hl' hn]
  exact ⟨_, H2, I2.tok _, rr, q2⟩
end
end Rg

/-! len(o) by an own __len__ -/
namespace Rg
open PySem PySem.Spec PyProof.Rows L2
section
variable {prog : Program} {w : World} {A : Around} {E : Value → Shared → Prop} {s : Shared} {K : PySem.W.Frag} {x C f : Addr} {ox : Obj} {od : Option Obj}
theorem len_In {Q : Value → Shared → Prop} (X : K.In s.heap) (I : PySem.W.InstAt s.heap x ox C od) (hs : PySem.W.findIn K (.ref C) "__len__" = some (some (.ref f))) (hf : PySem.W.isFn K (.ref f) = true)
    (h : wpAny (model prog w) A.in1 (call (.ref f) [.ref x]) (PySem.W.LenBack Q) E s) : wpAny (model prog w) A (call (.builtin "len") [.ref x]) Q E s := by
  refine Calls.call_function_entry kind_len plain_len entry_len (args_len1 _) ?_
  unfold Builtin.«len»
  refine wpAny_bind (m := oneArg "len" _) (wpAny_pure ?_)
  refine wpAny_bind (m := callSpecial? (.ref x) (Str.ofString "__len__")) (PySem.W.special_fn X I hs (beq_iff_eq.mp hf) (wpAny_mono h (fun r s' hr => ?_) fun _ _ y => y))
  cases r <;> first | exact hr.elim | skip
  rename_i n u
  obtain ⟨⟨h0, h1⟩, hq⟩ := hr
  refine wpAny_bind (wpAny_holding (wpAny_pure ?_))
  refine wpAny_bind (wpAny_letGo ?_)
  show wpAny _ _ (if n < 0 then _ else _) _ _ _
  rw [if_neg (by omega)]
  show wpAny _ _ (if n ≥ 2 ^ 63 then _ else _) _ _ _
  rw [if_neg (by omega)]
  exact wpAny_bind (wpAny_mkInt (wpAny_pure ⟨_, rfl, hq⟩))
end
section
variable {X : Cx} {CX : CXT} {k : Nat} {f C : Addr} {fd : FuncData} {ps : List PySem.Str} {sp : Sp} {E : XK}
/-- len(o): what __len__ promises of [o] -/
def rLenO (C : Addr) (sp : Sp) (E : XK) : List V → Hp → VK → Prop := fun xs H Q => ∃ a dx fs, xs = [.ref a] ∧ H a = some (.ins C dx fs) ∧ sp [.ref a] H (fun v H2 => ∃ n : Int, v = .int n ∧ 0 ≤ n ∧ n < 2 ^ 63 ∧ Q (.int n) H2) E
theorem call_lenO (hm : Meth X.K C "__len__" f) (F : FnOk X.prog X.w X.K X.mg X.base CX k f fd ps sp) (hr : Room (k + 1) X.A) (hb : Binds X.K fd ps []) (hx : Passes CX X E) : CallR X (.builtin "len") (rLenO C sp E) := by
  intro pins s σ H xs us Q I r h
  obtain ⟨a, dx, fs, rfl, ea, q⟩ := h
  cases r with
  | cons r rr =>
    cases rr
    obtain rfl : _ = Value.ref a := r
    obtain ⟨mA, O, _, _, _, _⟩ := ins_get I.hok ea
    obtain ⟨od, J, _⟩ := O.look
    refine len_In I.kIn J hm.at_ hm.fn ?_
    have hl : ([Value.ref a] : List Value).length = ps.length := by
      have := F.len _ _ _ _ q
      exact this
    have hbt := hb s [.ref a] I.kIn (by rw [List.append_nil]; exact hl)
    rw [List.append_nil] at hbt
    refine wpAny_call (codeAny_mono (F.run X.A.in1 X.stack s H ⟨[.ref a], []⟩ [.ref a] [.ref a] _ E hr.in1 I.env0.in1 hbt (.cons rfl .nil) q) fun r s' hq => ?_)
    cases r with
    | error e => exact hx pins σ H s e s' I hq
    | ok fl =>
      cases fl with
      | ret u =>
        obtain ⟨v, H', I3, rv, n, ev, h0, h1, q3⟩ := I.after hq
        subst ev
        obtain ⟨t, rfl⟩ := (show ∃ t, u = Value.int n t from rv)
        exact ⟨⟨h0, h1⟩, V.int n, H', I3.tok _, ⟨_, rfl⟩, q3⟩
      | next => exact False.elim hq
      | brk => exact False.elim hq
      | cont => exact False.elim hq
end
end Rg

set_option maxHeartbeats 4000000
set_option linter.all false
/-! the ground: callable defs, the readings' steps, heaps, data -/
namespace Rg
open PySem PySem.Spec L2
/-- a def of the top that can be called by its name, by places -/
structure Cal (P : Program) (w : World) (K : PySem.W.Frag) (mg : Str → Option Value) (base : Heap) (x : Str) (k : Nat) (ps : List Str) (sp : Sp) : Prop where
  ex : ∃ (f : Addr) (fd : FuncData), mg x = some (.ref f) ∧ PySem.W.keepIn K (.ref f) = true ∧ Binds K fd ps [] ∧ FnOk P w K mg base CX0 k f fd ps sp
section
variable {X : Cx} {k : Nat} {ps : List Str} {sp : Sp} {x : Str} {p pos : Pos} {e : Expr} {es : List Expr} {t : TA}
theorem pe_cal (C : Cal X.prog X.w X.K X.mg X.base x k ps sp) (hr : Room k X.A) (hg : Gl X x) (ha : PA X (e :: es) t) (hdb : (x == ("__debug__" : Str)) = false := by decide)
    (he : starEach (e :: es) X.env = (false, eval e X.env) :: starEach es X.env := by rfl) (hpl : (backTo pos (starEach es X.env)).any (·.1) = false := by rfl) :
    PE X (.Call (.Name x p) (e :: es) [] pos) (tCall sp [] E0 t) := by
  obtain ⟨f, fd, hm, hk, hb, F⟩ := C.ex
  exact pe_call F hr hg hm hk hb .nil pass0 ha hdb he hpl
theorem pe_cal0 (C : Cal X.prog X.w X.K X.mg X.base x k ps sp) (hr : Room k X.A) (hg : Gl X x) (hdb : (x == ("__debug__" : Str)) = false := by decide) :
    PE X (.Call (.Name x p) [] [] pos) (tCall sp [] E0 tNil) := by
  obtain ⟨f, fd, hm, hk, hb, F⟩ := C.ex
  exact pe_call0 F hr hg hm hk hb .nil pass0 hdb
/-- a power of two written numbers -/
theorem pe_powc {i j v : Int} {a b : Nat} {p1 p2 : Pos} (hc : 0 ≤ j ∧ j ≤ 1000000 ∧ i.natAbs < 2 ^ 64) (hv : i ^ j.toNat = v) : PE X (.BinOp (.Constant (.int i) a p1) .Pow (.Constant (.int j) b p2) pos) (tC (.int v)) := by
  have h : PE X (.BinOp (.Constant (.int i) a p1) .Pow (.Constant (.int j) b p2) pos) (tOp (rI CPow fun i j => .int (i ^ j.toNat)) (tC (.int i)) (tC (.int j))) := pe_op op_pow pe_int pe_int
  refine ⟨fun pins s σ H Q I q => h.run pins s σ H Q I ⟨i, j, rfl, rfl, hc, ?_⟩⟩
  show Q (V.int (i ^ j.toNat)) H
  rw [hv]
  exact q
end

/-! ### the steps of a reading -/
section
variable {t u : TS} {D : Ends} {σ : St} {H : Hp} {te ta tb : TE} {g : TG} {Q : VK} {c : TT} {i : Nat} {v : V}
theorem rd_seq (h : t { D with nx := u D } σ H) : tSeq t u D σ H := h
theorem rd_next (h : D.nx σ H) : tNext D σ H := h
theorem rd_asg (h : te σ H fun x H1 => g x σ H1 D.nx) : tAsg te g D σ H := h
theorem rd_name {R : St → Hp → Prop} (h : R (σ.set i (some v)) H) : gName i v σ H R := h
theorem rd_ret (h : te σ H D.rt) : tRet te D σ H := h
theorem rd_drop (h : te σ H fun _ H1 => D.nx σ H1) : tDrop te D σ H := h
theorem rd_ifs (h : c σ H fun b H1 => if b = true then t D σ H1 else u D σ H1) : tIfS c t u D σ H := h
theorem rd_var (e : σ[i]? = some (some v)) (h : Q v H) : tVar i σ H Q := ⟨v, e, h⟩
theorem rd_c (h : Q v H) : tC v σ H Q := h
theorem rd_op {r : R2} (h : ta σ H fun x H1 => tb σ H1 fun y H2 => r x y H2 Q) : tOp r ta tb σ H Q := h
theorem rd_un {r : V → Hp → VK → Prop} (h : ta σ H fun x H1 => r x H1 Q) : tUn r ta σ H Q := h
theorem rd_I0 {f : Int → Int → V} {a b : Int} (h : Q (f a b) H) : rI0 f (.int a) (.int b) H Q := ⟨a, b, rfl, rfl, h⟩
theorem rd_I {C : Int → Int → Prop} {f : Int → Int → V} {a b : Int} (hc : C a b) (h : Q (f a b) H) : rI C f (.int a) (.int b) H Q := ⟨a, b, rfl, rfl, hc, h⟩
theorem rd_eq {x y : V} (hc : scal x y = true) (h : Q (.bl (decide (x = y))) H) : rEq x y H Q := ⟨hc, h⟩
theorem rd_ne {x y : V} (hc : scal x y = true) (h : Q (.bl (!decide (x = y))) H) : rNe x y H Q := ⟨hc, h⟩
theorem rd_test {te : TE} {R : Bool → Hp → Prop} (h : te σ H fun x H' => ∃ k, x = .bl k ∧ R k H') : tTest te σ H R := h
theorem rd_tB {te : TE} {R : Bool → Hp → Prop} (h : te σ H fun x H' => ∃ k, x = .bl k ∧ R k H') : tB te σ H R := h
theorem rd_not {R : Bool → Hp → Prop} (h : c σ H fun b H1 => R (!b) H1) : tNot c σ H R := h
theorem rd_and {c' : TT} {R : Bool → Hp → Prop} (h : c σ H fun b H1 => if b = true then c' σ H1 R else R false H1) : tAnd c c' σ H R := h
theorem rd_or {c' : TT} {R : Bool → Hp → Prop} (h : c σ H fun b H1 => if b = true then R true H1 else c' σ H1 R) : tOr c c' σ H R := h
theorem rd_andV (h : ta σ H fun x H1 => ∃ k, x = .bl k ∧ if k = true then tb σ H1 Q else Q (.bl false) H1) : tAndV ta tb σ H Q := h
theorem rd_orV (h : ta σ H fun x H1 => ∃ k, x = .bl k ∧ if k = true then Q (.bl true) H1 else tb σ H1 Q) : tOrV ta tb σ H Q := h
theorem rd_notV (h : ta σ H fun x H1 => ∃ k, x = .bl k ∧ Q (.bl (!k)) H1) : tNotV ta σ H Q := h
theorem rd_bl {R : Bool → Prop} {k : Bool} (h : R k) : ∃ k', V.bl k = .bl k' ∧ R k' := ⟨k, rfl, h⟩
theorem rd_chain {r r' : R2} {tc : TE} (h : ta σ H fun x H1 => tb σ H1 fun y H2 => r x y H2 fun z H3 => ∃ k, z = .bl k ∧ (if k = true then tc σ H3 fun w' H4 => r' y w' H4 Q else Q (.bl false) H3)) : tChain r r' ta tb tc σ H Q := h
theorem rd_nil {R : List V → Hp → Prop} (h : R [] H) : tNil σ H R := h
theorem rd_cons {tr : TA} {R : List V → Hp → Prop} (h : ta σ H fun x H1 => tr σ H1 fun xs H2 => R (x :: xs) H2) : tCons ta tr σ H R := h
theorem rd_call {sp : Sp} {dvs : List V} {E : XK} {tr : TA} (h : tr σ H fun vs H1 => sp (vs ++ dvs) H1 Q E) : tCall sp dvs E tr σ H Q := h
theorem rd_cb {r : List V → Hp → VK → Prop} {tr : TA} (h : tr σ H fun vs H1 => r vs H1 Q) : tCB r tr σ H Q := h
theorem rd_tup {tr : TA} (h : tr σ H fun xs H1 => xs.length ≤ sizeLine ∧ ∀ p, H1 p = none → Q (.ref p) (upd H1 p (.tup xs))) : tTup tr σ H Q := h
theorem rd_lst {tr : TA} (h : tr σ H fun xs H1 => xs.length ≤ sizeLine ∧ ∀ p, H1 p = none → Q (.ref p) (upd H1 p (.lst xs))) : tLst tr σ H Q := h
theorem rd_isN (h : ta σ H fun x H1 => Q (.bl (decide (x = .non))) H1) : tIsN ta σ H Q := h
end
theorem rd_ifd {p A B : Prop} [Decidable p] (h1 : p → A) (h2 : ¬ p → B) : if decide p = true then A else B := by
  by_cases h : p
  · rw [decide_eq_true h]
    exact iteT (h1 h)
  · rw [decide_eq_false h]
    exact iteF (h2 h)
theorem rd_ifT {p A B : Prop} [Decidable p] (h : p) (h1 : A) : if decide p = true then A else B := rd_ifd (fun _ => h1) (fun z => absurd h z)
theorem rd_ifF {p A B : Prop} [Decidable p] (h : ¬ p) (h1 : B) : if decide p = true then A else B := rd_ifd (fun z => absurd z h) (fun _ => h1)
theorem rd_ifI {a b : Int} {A B : Prop} (h1 : a = b → A) (h2 : a ≠ b → B) : if decide (V.int a = V.int b) = true then A else B := rd_ifd (fun h => h1 (by injection h)) (fun h => h2 fun e => h (by rw [e]))
theorem rd_ifIn {a b : Int} {A B : Prop} (h1 : a = b → B) (h2 : a ≠ b → A) : if (!decide (V.int a = V.int b)) = true then A else B := by
  by_cases h : a = b
  · subst h
    simpa using h1 rfl
  · have : ¬ V.int a = V.int b := fun e => h (by injection e)
    simpa [this] using h2 h
theorem rd_ifb {k : Bool} {A B : Prop} (h1 : k = true → A) (h2 : k = false → B) : if k = true then A else B := by
  cases k
  · exact iteF (h2 rfl)
  · exact iteT (h1 rfl)
theorem rd_ifbT {k : Bool} {A B : Prop} (h : k = true) (h1 : A) : if k = true then A else B := by
  subst h
  exact iteT h1
theorem rd_ifbF {k : Bool} {A B : Prop} (h : k = false) (h1 : B) : if k = true then A else B := by
  subst h
  exact iteF h1
theorem rd_ifn {k : Bool} {A B : Prop} (h1 : k = true → B) (h2 : k = false → A) : if (!k) = true then A else B := by
  cases k
  · exact iteT (h2 rfl)
  · exact iteF (h1 rfl)
/-- a display's place -/
theorem rd_new {n : Nat} {R : Prop} (h : Nat.ble n sizeLine = true) (q : R) : n ≤ sizeLine ∧ R := ⟨Nat.le_of_ble_eq_true h, q⟩

/-! ### heaps -/
theorem same_upd {H : Hp} {p : Addr} {o : HO} (h : H p = none) : Same H (upd H p o) := fun b u e => by rw [upd_ne (ne_of_none e h)]; exact e
/-- tuples stay -/
def Tk (H H' : Hp) : Prop := ∀ b xs, H b = some (.tup xs) → H' b = some (.tup xs)
theorem Tk.refl (H : Hp) : Tk H H := fun _ _ h => h
theorem Tk.trans {H H1 H2 : Hp} (a : Tk H H1) (b : Tk H1 H2) : Tk H H2 := fun c o h => b c o (a c o h)
theorem Tk.of {H H' : Hp} (s : Same H H') : Tk H H' := fun c o h => s c _ h
theorem Tk.new {H : Hp} {p : Addr} {o : HO} (h : H p = none) : Tk H (upd H p o) := .of (same_upd h)
/-- a list is changed -/
theorem Tk.lst {H : Hp} {p : Addr} {xs : List V} {o : HO} (h : H p = some (.lst xs)) : Tk H (upd H p o) := fun b u e => by rw [upd_ne (ne_of e h (fun z => nomatch z))]; exact e
theorem Tk.ins {H : Hp} {p C dx : Addr} {fs : List (Str × V)} {o : HO} (h : H p = some (.ins C dx fs)) : Tk H (upd H p o) := fun b u e => by rw [upd_ne (ne_of e h (fun z => nomatch z))]; exact e
/-- all but two lists are kept -/
def Kp (t g : Addr) (H H' : Hp) : Prop := ∀ b o, H b = some o → b ≠ t → b ≠ g → H' b = some o
theorem Kp.refl (t g : Addr) (H : Hp) : Kp t g H H := fun _ _ h _ _ => h
theorem Kp.trans {t g : Addr} {H H1 H2 : Hp} (a : Kp t g H H1) (b : Kp t g H1 H2) : Kp t g H H2 := fun c o h n m => b c o (a c o h n m) n m
theorem Kp.of {t g : Addr} {H H' : Hp} (s : Same H H') : Kp t g H H' := fun c o h _ _ => s c o h
theorem Kp.new {t g : Addr} {H : Hp} {p : Addr} {o : HO} (h : H p = none) : Kp t g H (upd H p o) := .of (same_upd h)
theorem Kp.t {t g : Addr} {H : Hp} {o : HO} : Kp t g H (upd H t o) := fun b u e n _ => by rw [upd_ne n]; exact e
theorem Kp.g {t g : Addr} {H : Hp} {o : HO} : Kp t g H (upd H g o) := fun b u e _ n => by rw [upd_ne n]; exact e
/-- a place that was free, written again -/
theorem Kp.put {t g : Addr} {H H' : Hp} {p : Addr} {o : HO} (k : Kp t g H H') (h : H p = none) : Kp t g H (upd H' p o) := fun b u e n m => by rw [upd_ne (ne_of_none e h)]; exact k b u e n m
/-- the draws' tray: two lists; at most n mixed draws so far -/
structure Tray (H : Hp) (t g : Addr) (n : Nat) : Prop where
  ne : t ≠ g
  ex : ∃ (gs : List Int) (a f c : Int), H t = some (.lst [.ref g, .int a, .int f, .int c]) ∧ H g = some (.lst (gs.map V.int)) ∧ (∀ z ∈ gs, 0 ≤ z) ∧ 0 ≤ a ∧ 0 ≤ f ∧ f < 2305843009213693952 ∧ 0 ≤ c ∧ c ≤ (n : Int)
theorem Tray.mono {H : Hp} {t g : Addr} {n m : Nat} (T : Tray H t g n) (h : n ≤ m) : Tray H t g m := by
  obtain ⟨ne, gs, a, f, c, h1, h2, h3, h4, h5, h6, h7, h8⟩ := T
  exact ⟨ne, gs, a, f, c, h1, h2, h3, h4, h5, h6, h7, by omega⟩
theorem Tray.same {H H' : Hp} {t g : Addr} {n : Nat} (T : Tray H t g n) (s : Same H H') : Tray H' t g n := by
  obtain ⟨ne, gs, a, f, c, h1, h2, h3⟩ := T
  exact ⟨ne, gs, a, f, c, s _ _ h1, s _ _ h2, h3⟩
theorem Tray.new {H : Hp} {t g p : Addr} {n : Nat} {o : HO} (T : Tray H t g n) (h : H p = none) : Tray (upd H p o) t g n := T.same (same_upd h)
theorem Tray.put {H : Hp} {t g p : Addr} {n : Nat} {o : HO} (T : Tray H t g n) (h1 : p ≠ t) (h2 : p ≠ g) : Tray (upd H p o) t g n := by
  obtain ⟨ne, gs, a, f, c, e1, e2, h3⟩ := T
  exact ⟨ne, gs, a, f, c, by rw [upd_ne (Ne.symm h1)]; exact e1, by rw [upd_ne (Ne.symm h2)]; exact e2, h3⟩
theorem Tray.ht {H : Hp} {t g : Addr} {n : Nat} (T : Tray H t g n) : ∃ xs, H t = some (.lst xs) := by
  obtain ⟨_, _, _, _, _, e, _⟩ := T
  exact ⟨_, e⟩
theorem Tray.hg {H : Hp} {t g : Addr} {n : Nat} (T : Tray H t g n) : ∃ xs, H g = some (.lst xs) := by
  obtain ⟨_, _, _, _, _, _, e, _⟩ := T
  exact ⟨_, e⟩
/-- a place that was free is none of the tray's -/
theorem Tray.net {H : Hp} {t g p : Addr} {n : Nat} (T : Tray H t g n) (h : H p = none) : p ≠ t := by
  obtain ⟨_, e⟩ := T.ht
  exact Ne.symm (ne_of_none e h)
theorem Tray.neg {H : Hp} {t g p : Addr} {n : Nat} (T : Tray H t g n) (h : H p = none) : p ≠ g := by
  obtain ⟨_, e⟩ := T.hg
  exact Ne.symm (ne_of_none e h)
theorem Tray.netT {H : Hp} {t g p : Addr} {n : Nat} {xs : List V} (T : Tray H t g n) (h : H p = some (.tup xs)) : p ≠ t := by
  obtain ⟨_, e⟩ := T.ht
  exact ne_of h e (fun z => nomatch z)
theorem Tray.negT {H : Hp} {t g p : Addr} {n : Nat} {xs : List V} (T : Tray H t g n) (h : H p = some (.tup xs)) : p ≠ g := by
  obtain ⟨_, e⟩ := T.hg
  exact ne_of h e (fun z => nomatch z)
theorem Kp.tk {t g : Addr} {H H' : Hp} {n : Nat} (k : Kp t g H H') (T : Tray H t g n) : Tk H H' := fun b xs e => k b _ e (T.netT e) (T.negT e)

/-! ### data: None, bools, ints, texts, and tuples of such, at any depth -/
mutual
inductive Rp (H : Hp) : V → PyData → Prop
  | non : Rp H .non .none
  | bl (b : Bool) : Rp H (.bl b) (.bool b)
  | int (i : Int) : Rp H (.int i) (.int i)
  | str (x : Str) : Rp H (.str x) (.str x)
  | tup {a : Addr} {xs : List V} {ds : List PyData} : H a = some (.tup xs) → RpAll H xs ds → Rp H (.ref a) (.tuple ds)
inductive RpAll (H : Hp) : List V → List PyData → Prop
  | nil : RpAll H [] []
  | cons {v : V} {vs : List V} {d : PyData} {ds : List PyData} : Rp H v d → RpAll H vs ds → RpAll H (v :: vs) (d :: ds)
end
mutual
theorem Rp.keep {H H' : Hp} (k : Tk H H') : ∀ {d : PyData} {v : V}, Rp H v d → Rp H' v d
  | _, _, .non => .non
  | _, _, .bl b => .bl b
  | _, _, .int i => .int i
  | _, _, .str x => .str x
  | _, _, .tup e h => .tup (k _ _ e) (RpAll.keep k h)
theorem RpAll.keep {H H' : Hp} (k : Tk H H') : ∀ {ds : List PyData} {vs : List V}, RpAll H vs ds → RpAll H' vs ds
  | _, _, .nil => .nil
  | _, _, .cons h t => .cons (Rp.keep k h) (RpAll.keep k t)
end
mutual
theorem Rp.dp {K : PySem.W.Frag} {H : Hp} : ∀ {d : PyData} {v : V}, Rp H v d → Dp K H v d
  | _, _, .non => .non
  | _, _, .bl b => .bl b
  | _, _, .int i => .int i
  | _, _, .str x => .str x
  | _, _, .tup e h => .tup (SqT.of e) (RpAll.dp h)
theorem RpAll.dp {K : PySem.W.Frag} {H : Hp} : ∀ {ds : List PyData} {vs : List V}, RpAll H vs ds → DpAll K H vs ds
  | _, _, .nil => .nil
  | _, _, .cons h t => .cons (Rp.dp h) (RpAll.dp t)
end
theorem Rp.tup_inv {H : Hp} {v : V} {ds : List PyData} (h : Rp H v (.tuple ds)) : ∃ p xs, v = .ref p ∧ H p = some (.tup xs) ∧ RpAll H xs ds := by
  cases h with
  | tup e a => exact ⟨_, _, rfl, e, a⟩
theorem Rp.int_inv {H : Hp} {v : V} {i : Int} (h : Rp H v (.int i)) : v = .int i := by cases h; rfl
theorem Rp.str_inv {H : Hp} {v : V} {x : Str} (h : Rp H v (.str x)) : v = .str x := by cases h; rfl
theorem RpAll.nil_inv {H : Hp} {vs : List V} (h : RpAll H vs []) : vs = [] := by cases h; rfl
theorem RpAll.cons_inv {H : Hp} {vs : List V} {d : PyData} {ds : List PyData} (h : RpAll H vs (d :: ds)) : ∃ v r, vs = v :: r ∧ Rp H v d ∧ RpAll H r ds := by
  cases h with
  | cons a b => exact ⟨_, _, rfl, a, b⟩
theorem RpAll.length {H : Hp} : ∀ {ds : List PyData} {vs : List V}, RpAll H vs ds → vs.length = ds.length
  | _, _, .nil => rfl
  | _, _, .cons _ t => congrArg Nat.succ (RpAll.length t)
theorem RpAll.get {H : Hp} : ∀ {ds : List PyData} {vs : List V} {i : Nat} {v : V}, RpAll H vs ds → vs[i]? = some v → ∃ d, ds[i]? = some d ∧ Rp H v d
  | _, _, _, _, .nil, e => by simp at e
  | _, _, 0, _, .cons h _, e => by
    simp at e
    subst e
    exact ⟨_, rfl, h⟩
  | _, _, i + 1, _, .cons _ t, e => by
    obtain ⟨d, h1, h2⟩ := RpAll.get (i := i) t (by simpa using e)
    exact ⟨d, by simpa using h1, h2⟩
theorem RpAll.get2 {H : Hp} : ∀ {ds : List PyData} {vs : List V} {i : Nat} {d : PyData}, RpAll H vs ds → ds[i]? = some d → ∃ v, vs[i]? = some v ∧ Rp H v d
  | _, _, _, _, .nil, e => by simp at e
  | _, _, 0, _, .cons h _, e => by
    simp at e
    subst e
    exact ⟨_, rfl, h⟩
  | _, _, i + 1, _, .cons _ t, e => by
    obtain ⟨d, h1, h2⟩ := RpAll.get2 (i := i) t (by simpa using e)
    exact ⟨d, by simpa using h1, h2⟩
theorem RpAll.append {H : Hp} : ∀ {ds es : List PyData} {vs us : List V}, RpAll H vs ds → RpAll H us es → RpAll H (vs ++ us) (ds ++ es)
  | _, _, _, _, .nil, h => h
  | _, _, _, _, .cons a t, h => .cons a (RpAll.append t h)
theorem RpAll.ints {H : Hp} : ∀ (ns : List Int), RpAll H (ns.map V.int) (ns.map PyData.int)
  | [] => .nil
  | n :: ns => .cons (.int n) (RpAll.ints ns)
theorem RpAll.ints_inv {H : Hp} : ∀ {ns : List Int} {vs : List V}, RpAll H vs (ns.map PyData.int) → vs = ns.map V.int
  | [], _, h => h.nil_inv
  | n :: ns, _, h => by
    obtain ⟨v, r, rfl, h1, h2⟩ := RpAll.cons_inv h
    rw [h1.int_inv, RpAll.ints_inv h2]
    rfl
end Rg

/-! globals, the domain's data, promises -/
namespace Rg
open PySem PySem.Spec L2
/-- built-in names that the top leaves alone -/
structure BT (mg : Str → Option Value) : Prop where
  g_len : mg "len" = none
  g_range : mg "range" = none
  g_isinstance : mg "isinstance" = none
  g_all : mg "all" = none
  g_max : mg "max" = none
  g_sorted : mg "sorted" = none
  g_tuple : mg "tuple" = none
  g_list : mg "list" = none
  g_int : mg "int" = none
  g_bool : mg "bool" = none
  g_str : mg "str" = none
  g_enumerate : mg "enumerate" = none
  g_zip : mg "zip" = none
  g_sum : mg "sum" = none
  g_min : mg "min" = none
  g_any : mg "any" = none
  g_abs : mg "abs" = none
/-- an int of the top -/
def GI (mg : Str → Option Value) (x : Str) (n : Int) : Prop := ∃ t, mg x = some (Value.int n t)
/-- a tuple of the top -/
def GTu (K : PySem.W.Frag) (mg : Str → Option Value) (x : Str) (xs : List V) : Prop := ∃ a, mg x = some (.ref a) ∧ ∀ H, SqT K H a xs
def tGt (K : PySem.W.Frag) (xs : List V) : TE := fun _ H Q => ∀ a, (∀ H, SqT K H a xs) → Q (.ref a) H
section
variable {X : Cx} {x : Str} {pos : Pos}
theorem pe_gi {n : Int} (h : GI X.mg x n) (hg : Gl X x) (hd : (x == ("__debug__" : Str)) = false := by decide) : PE X (.Name x pos) (tC (.int n)) := by
  obtain ⟨t, e⟩ := h
  exact pe_glob hg e ⟨t, rfl⟩ hd
theorem pe_gt {xs : List V} (h : GTu X.K X.mg x xs) (hg : Gl X x) (hd : (x == ("__debug__" : Str)) = false := by decide) : PE X (.Name x pos) (tGt X.K xs) := by
  obtain ⟨a, e, q⟩ := h
  have p : PE X (.Name x pos) (tC (.ref a)) := pe_glob hg e rfl hd
  exact ⟨fun pins s σ H Q I hw => p.run pins s σ H Q I (hw a q)⟩
end
section
variable {σ : L2.St} {H : Hp} {Q : VK} {K : PySem.W.Frag}
theorem rd_ixL {p : Addr} {xs : List V} {i : Int} {v : V} (h : H p = some (.lst xs)) (e : atI xs i = some v) (q : Q v H) : rIxL K (.ref p) (.int i) H Q := ⟨p, xs, i, v, rfl, rfl, SqL.of h, e, q⟩
theorem rd_ixT {p : Addr} {xs : List V} {i : Int} {v : V} (h : H p = some (.tup xs)) (e : atI xs i = some v) (q : Q v H) : rIxT K (.ref p) (.int i) H Q := ⟨p, xs, i, v, rfl, rfl, SqT.of h, e, q⟩
theorem rd_isi {x c : V} {t u : Value} {b : Bool} (h1 : ClsV c u) (h2 : TyX K H x t) (h3 : PySem.W.kitOne K t u = some b) (q : Q (.bl b) H) : rIsi K [x, c] H Q := ⟨x, c, t, u, b, rfl, h1, h2, h3, q⟩
end
section
variable {σ : L2.St} {H : Hp} {Q : VK} {K : PySem.W.Frag} {D : Ends}
theorem rd_mod {a b : Int} (hc : 0 < b) (h : Q (.int (a % b)) H) : rI (fun _ j => 0 < j) (fun i j => .int (i % j)) (.int a) (.int b) H Q := ⟨a, b, rfl, rfl, hc, h⟩
theorem rd_mul {a b : Int} (hc : CMul a b) (h : Q (.int (a * b)) H) : rI CMul (fun i j => .int (i * j)) (.int a) (.int b) H Q := ⟨a, b, rfl, rfl, hc, h⟩
theorem rd_fdivW {a b : Int} (hc : CDivW a b) (h : Q (.int (a / b)) H) : rI CDivW (fun i j => .int (i / j)) (.int a) (.int b) H Q := ⟨a, b, rfl, rfl, hc, h⟩
theorem rd_pow {a b : Int} (hc : CPow a b) (h : Q (.int (a ^ b.toNat)) H) : rI CPow (fun i j => .int (i ^ j.toNat)) (.int a) (.int b) H Q := ⟨a, b, rfl, rfl, hc, h⟩
theorem rd_neD {x y : V} {d e : PyData} (h1 : Dp K H x d) (h2 : Dp K H y e) (s1 : SeqAt.shaped d = true) (s2 : SeqAt.shaped e = true) (h : Q (.bl (!PyData.eqv d e)) H) : rNeD K x y H Q := ⟨d, e, h1, h2, s1, s2, h⟩
theorem rd_eqD {x y : V} {d e : PyData} (h1 : Dp K H x d) (h2 : Dp K H y e) (s1 : SeqAt.shaped d = true) (s2 : SeqAt.shaped e = true) (h : Q (.bl (PyData.eqv d e)) H) : rEqD K x y H Q := ⟨d, e, h1, h2, s1, s2, h⟩
theorem rd_bm {T : String} {r : V → List V → Hp → VK → Prop} {to : TE} {t : TA} (h : to σ H fun x H1 => tyV K T x H1 ∧ t σ H1 fun xs H2 => r x xs H2 Q) : tBM K T r to t σ H Q := h
theorem rd_bm0 {T : String} {r : V → List V → Hp → VK → Prop} {to : TE} (h : to σ H fun x H1 => tyV K T x H1 ∧ r x [] H1 Q) : tBM0 K T r to σ H Q := h
/-- a list's method -/
theorem rd_tyL {p : Addr} {xs : List V} {R : Prop} (h : H p = some (.lst xs)) (q : R) : tyV K "list" (.ref p) H ∧ R := ⟨.inl ⟨rfl, xs, SqL.of h⟩, q⟩
theorem rd_append {p : Addr} {xs : List V} {y : V} (h : H p = some (.lst xs)) (hl : xs.length < sizeLine) (q : Q .non (upd H p (.lst (xs ++ [y])))) : rAppend (.ref p) [y] H Q := ⟨p, xs, y, rfl, rfl, h, hl, q⟩
theorem rd_pop0 {p : Addr} {x : V} {xs : List V} (h : H p = some (.lst (x :: xs))) (q : Q x (upd H p (.lst xs))) : rPopAt (.ref p) [.int 0] H Q := ⟨p, x :: xs, 0, 0, x, rfl, rfl, h, by decide, by decide, by simp [seqIndex?], rfl, q⟩
theorem rd_gsub {to ti : TE} {t : TSet} {v : V} {R : L2.St → Hp → Prop} (h : to σ H fun o H1 => ti σ H1 fun i H2 => t o i v H2 fun H3 => R σ H3) : gSub to ti t v σ H R := h
theorem rd_setL {p : Addr} {xs : List V} {k : Int} {j : Nat} {v : V} {R : Hp → Prop} (h : H p = some (.lst xs)) (e : ixN xs.length k = some j) (q : R (upd H p (.lst (xs.set j v)))) : rSetL (.ref p) (.int k) v H R := ⟨p, xs, k, j, rfl, rfl, h, e, q⟩
theorem rd_sl {r : V → Option Int → Option Int → Hp → VK → Prop} {te : TE} {tl th : TO} (h : te σ H fun x H1 => tl σ H1 fun l H2 => th σ H2 fun u H3 => r x l u H3 Q) : tSl r te tl th σ H Q := h
theorem rd_gt {xs : List V} (h : ∀ a, (∀ H, SqT K H a xs) → Q (.ref a) H) : tGt K xs σ H Q := h
theorem rd_yes {R : Bool → Hp → Prop} (h : R true H) : tYes σ H R := h
end
theorem while_inv {c : TT} {tb : TS} {D : Ends} {σ : L2.St} {H : Hp} (W : Nat → L2.St → Hp → Prop) (h0 : ∃ m, W m σ H) (hx : ∀ m σ H, W m σ H → D.nx σ H)
    (hs : ∀ B : L2.St → Hp → Prop, (∀ m σ H, W m σ H → B σ H) → ∀ m σ H, W m σ H → c σ H fun b H1 => if b = true then ∃ N : L2.St → Hp → Prop, (∀ σ' H', N σ' H' → ∃ m', m' < m ∧ W m' σ' H') ∧ tb { nx := N, ct := N, bk := B, rt := D.rt } σ H1 else B σ H1) :
    tWhile c tb D σ H := ⟨W, h0, hs D.nx hx⟩
section
variable {J : It} {n : Nat} {G : Hp → Prop} {Y : Nat → Hp → V → Hp → Prop}
/-- a for without break -/
theorem for_inv (w : Walk J n G Y) {g : TG} {tb : TS} {Nx : L2.St → Hp → Prop} {rt : VK} {σ : L2.St} {H : Hp} (Pv : Nat → L2.St → Hp → Prop) (h0 : Pv 0 σ H) (hG : ∀ i σ H, i ≤ n → Pv i σ H → G H)
    (hs : ∀ (B : L2.St → Hp → Prop) i x σ H H', i < n → Pv i σ H → Y i H x H' → g x σ H' fun σ2 H2 => tb { nx := Pv (i + 1), rt := rt, bk := B, ct := Pv (i + 1) } σ2 H2) (hd : ∀ σ H, Pv n σ H → Nx σ H) :
    ∃ W : Nat → Nat → L2.St → Hp → Prop, (∃ m, W 0 m σ H) ∧ ∀ i m σ H, W i m σ H →
      (J.stop i H ∧ Nx σ H) ∨ (J.go i H ∧ ∃ N : L2.St → Hp → Prop, (∀ σ' H', N σ' H' → ∃ m', m' < m ∧ W (i + 1) m' σ' H') ∧ ∀ x H', J.yld i H x H' → g x σ H' fun σ2 H2 => tb { nx := N, rt := rt, bk := Nx, ct := N } σ2 H2) :=
  for_it w (D := ⟨Nx, rt, fun _ _ => False, fun _ _ => False⟩) Pv h0 hG (fun i x σ H H' hi p y => hs Nx i x σ H H' hi p y) hd
end
theorem rd_for {wi : TI} {g : TG} {tb : TS} {D : Ends} {σ : L2.St} {H : Hp} (h : wi σ H fun J H1 => ∃ W : Nat → Nat → L2.St → Hp → Prop, (∃ m, W 0 m σ H1) ∧ ∀ i m σ H, W i m σ H →
  (J.stop i H ∧ D.nx σ H) ∨ (J.go i H ∧ ∃ N : L2.St → Hp → Prop, (∀ σ' H', N σ' H' → ∃ m', m' < m ∧ W (i + 1) m' σ' H') ∧ ∀ x H', J.yld i H x H' → g x σ H' fun σ2 H2 => tb { D with nx := N, ct := N, bk := D.nx } σ2 H2)) : tFor wi g tb D σ H := h
theorem rd_ilist {K : PySem.W.Frag} {tl : TE} {σ : L2.St} {H : Hp} {R : It → Hp → Prop} (h : tl σ H fun x H1 => ∃ a, x = .ref a ∧ (∃ xs, SqL K H1 a xs) ∧ R (Itl K a) H1) : iList K tl σ H R := h
theorem rd_itup {K : PySem.W.Frag} {tl : TE} {σ : L2.St} {H : Hp} {R : It → Hp → Prop} (h : tl σ H fun x H1 => ∃ a, x = .ref a ∧ (∃ xs, SqT K H1 a xs) ∧ R (Itt K a) H1) : iTup K tl σ H R := h
theorem rd_irng {ta : TA} {σ : L2.St} {H : Hp} {R : It → Hp → Prop} (h : ta σ H fun vs H1 => ∃ j : Int, vs = [.int j] ∧ -(2 ^ 62) ≤ j ∧ j < 2 ^ 62 ∧ R (Itr 0 j.toNat) H1) : iRng1 ta σ H R := h
theorem rd_rng {j : Int} {H : Hp} {R : It → Hp → Prop} (h1 : -(2 ^ 62) ≤ j) (h2 : j < 2 ^ 62) (h : R (Itr 0 j.toNat) H) : ∃ k : Int, [V.int j] = [V.int k] ∧ -(2 ^ 62) ≤ k ∧ k < 2 ^ 62 ∧ R (Itr 0 k.toNat) H := ⟨j, rfl, h1, h2, h⟩
/-- a comprehension -/
theorem rd_lc {wi : TI} {g : TG} {tt : TT} {te : TE} {vs : List Nat} {σ : L2.St} {H : Hp} {Q : VK} (h : wi σ H fun J H1 => ∀ D, H1 D = none → ∃ W : Nat → Nat → Hp → Prop, (∃ m, W 0 m (upd H1 D (.lst []))) ∧ ∀ i m H, W i m H →
  (J.stop i H ∧ Q (.ref D) H) ∨ (J.go i H ∧ ∃ Nx : Hp → Prop, (∀ H', Nx H' → ∃ m', m' < m ∧ W (i + 1) m' H') ∧ ∀ x H', J.yld i H x H' → g x (wipe σ vs) H' fun σ2 H2 => wipe σ2 vs = wipe σ vs ∧ tt σ2 H2 fun b H3 =>
    if b = true then te σ2 H3 fun y H4 => ∃ acc, H4 D = some (.lst acc) ∧ acc.length < sizeLine ∧ Nx (upd H4 D (.lst (acc ++ [y]))) else Nx H3)) : tLc wi g tt te vs σ H Q := h
theorem rd_max {a b : Int} {H : Hp} {Q : VK} (h : Q (.int (if b > a then b else a)) H) : (fun xs H Q => ∃ i j, xs = [V.int i, V.int j] ∧ Q (.int (if j > i then j else i)) H) [V.int a, V.int b] H Q := ⟨a, b, rfl, h⟩
/-- shaped data: no dict, no depth above 64 -/
theorem shaped_ints (gs : List Int) : SeqAt.shaped (.list (gs.map .int)) = true := by
  have h1 : ∀ gs : List Int, PyData.canLayAll0 (gs.map .int) = true := fun gs => by
    induction gs with
    | nil => rfl
    | cons a r ih => simpa [PyData.canLayAll0, PyData.canLay0] using ih
  have h2 : ∀ gs : List Int, PyData.depthAll (gs.map .int) = 0 := fun gs => by
    induction gs with
    | nil => rfl
    | cons a r ih =>
      show max (PyData.depth (.int a)) (PyData.depthAll (r.map .int)) = 0
      rw [ih]
      rfl
  unfold SeqAt.shaped
  rw [show PyData.canLay0 (.list (gs.map .int)) = PyData.canLayAll0 (gs.map .int) from rfl, h1, show PyData.depth (.list (gs.map .int)) = PyData.depthAll (gs.map .int) + 1 from rfl, h2]
  rfl
theorem rd_in {K : PySem.W.Frag} {H : Hp} {Q : VK} {x : V} {p : Addr} {xs : List V} (h : H p = some (.lst xs)) (f1 : flatV x = true) (f2 : xs.all flatV = true) (q : Q (.bl (inV x xs)) H) : rIn K false x (.ref p) H Q := ⟨p, xs, rfl, .inl (SqL.of h), f1, f2, q⟩
theorem rd_notInT {K : PySem.W.Frag} {H : Hp} {Q : VK} {x : V} {p : Addr} {xs : List V} (h : SqT K H p xs) (f1 : flatV x = true) (f2 : xs.all flatV = true) (q : Q (.bl (!inV x xs)) H) : rIn K true x (.ref p) H Q := ⟨p, xs, rfl, .inr h, f1, f2, q⟩
theorem rd_ifS {a b : Str} {A B : Prop} (h1 : a = b → A) (h2 : a ≠ b → B) : if decide (V.str a = V.str b) = true then A else B := rd_ifd (fun h => h1 (by injection h)) (fun h => h2 fun e => h (by rw [e]))
theorem div3 {i : Int} : CDivW i 3 := wide_div (b := 8) (by decide) (by decide) (by decide) (by decide)
theorem div7 {i : Int} : CDivW i 7 := wide_div (b := 8) (by decide) (by decide) (by decide) (by decide)
end Rg

/-! the domain: words, rows, segments; what fits -/
namespace Rg
open PySem PySem.Spec L2
inductive Wd where
  | num (n : Int)
  | ptr (r s p : Int)
def Wd.d : Wd → PyData
  | .num n => .tuple [.str "num", .int n]
  | .ptr r s p => .tuple [.str "ptr", .int r, .int s, .int p]
structure Rw where
  op : Str
  ns : List Int
def Rw.d (r : Rw) : PyData := .tuple (.str r.op :: r.ns.map .int)
structure Sg where
  r1 : Int
  r2 : Int
  r3 : Int
  ri : Str
  ga : Int
  ws : List Wd
  rs : List Rw
def Sg.d (s : Sg) : PyData := .tuple [.tuple [.int s.r1, .int s.r2, .int s.r3], .str s.ri, .int s.ga, .tuple (s.ws.map Wd.d), .tuple (s.rs.map Rw.d)]
def rowForms : List (Str × Str) := [("set", "n"), ("add", "n"), ("load", "pn"), ("store", "pn"), ("fetch", "ppn"), ("keep", "ppn"), ("aim", "psn"), ("move", "ppn"), ("zero", "n"), ("go", "n"), ("call", "p"), ("return", "")]
def formOf (w : Str) : Option Str := rowForms.lookup w
def opsL : List Str := ["set", "add", "load", "store", "fetch", "keep", "aim", "move", "zero", "go", "call", "return"]
def below (n b : Int) : Bool := decide (0 ≤ n) && decide (n < b)
theorem below_of {n b : Int} (h1 : 0 ≤ n) (h2 : n < b) : below n b = true := by unfold below; rw [decide_eq_true h1, decide_eq_true h2]; rfl
theorem below_iff {n b : Int} : below n b = true ↔ 0 ≤ n ∧ n < b := by unfold below; simp
def numFits (c : Nat) (n m : Int) : Bool := if c = 112 then below n 4 else if c = 115 then below n m else true
def fitsNs : List Nat → List Int → Int → Bool
  | c :: cs, n :: ns, m => numFits c n m && fitsNs cs ns m
  | _, _, _ => true
def RwForm (r : Rw) : Prop := ∃ l, formOf r.op = some l ∧ l.cps.size = r.ns.length
def rowFits (r : Rw) (m : Int) : Bool := match formOf r.op with
  | some l => fitsNs l.cps.toList r.ns m
  | none => false
def wdFits : Wd → Int → Int → Bool
  | .num n, b, _ => below n b
  | .ptr r s p, _, m => below r 8 && (below s m && decide (0 ≤ p))
def rightsL : List Str := ["", "r", "w", "x", "rw", "rx", "wx", "rwx"]
def riFits (x : Str) : Bool := inV (.str x) (rightsL.map V.str)
def brFits (a b c : Int) : Bool := below a 8 && (below b 8 && (below c 8 && (decide (a ≤ b) && decide (b ≤ c))))
def sgFits (s : Sg) (b m : Int) : Bool := brFits s.r1 s.r2 s.r3 && (riFits s.ri && (below s.ga (s.rs.length + 1) && (decide (s.ws.length ≤ 16) && (decide (s.rs.length ≤ 24) && (s.ws.all (wdFits · b m) && s.rs.all (rowFits · m))))))
def opsA : List Str := ["set", "add", "zero", "go"]
def opsB : List Str := ["load", "store"]
def opsC : List Str := ["fetch", "keep", "move"]
theorem ops_all : ∀ w ∈ opsL, (inV (.str w) (opsA.map V.str) = true → formOf w = some ("n" : Str)) ∧ (inV (.str w) (opsA.map V.str) = false → (inV (.str w) (opsB.map V.str) = true → formOf w = some ("pn" : Str)) ∧ (inV (.str w) (opsB.map V.str) = false → (inV (.str w) (opsC.map V.str) = true → formOf w = some ("ppn" : Str)) ∧ (inV (.str w) (opsC.map V.str) = false → (w = "aim" → formOf w = some ("psn" : Str)) ∧ (w ≠ "aim" → (w = "return" → formOf w = some ("" : Str)) ∧ (w ≠ "return" → formOf w = some ("p" : Str)))))) := by decide +kernel
/-- an item of a written list of texts at an open place -/
theorem at_str {l : List Str} {r : Int} (h0 : 0 ≤ r) (h1 : r < l.length) : ∃ w, w ∈ l ∧ atI (l.map V.str) r = some (.str w) := by
  have e : r = ((r.toNat : Nat) : Int) := by omega
  have hl : r.toNat < l.length := by omega
  refine ⟨l[r.toNat], List.getElem_mem hl, ?_⟩
  refine at_of e ?_
  rw [List.getElem?_map, List.getElem?_eq_getElem (by omega)]
  simp
theorem at_two {x y : V} {r : Int} (h0 : 0 ≤ r) (h1 : r < 2) : atI [x, y] r = some (if r = 0 then x else y) := by
  have : r = 0 ∨ r = 1 := by omega
  rcases this with rfl | rfl <;> rfl
theorem wds_all {H : Hp} : ∀ {ws : List Wd} {vs : List V}, RpAll H vs (ws.map Wd.d) → vs.length = ws.length := fun h => by rw [h.length, List.length_map]
/-! ### a comprehension of drawn things -/
def GenL (t g D : Addr) (H1 : Hp) (n0 c : Nat) (Pd : PyData → Prop) (i : Nat) (H' : Hp) : Prop :=
  ∃ (vs : List V) (ds : List PyData), H' D = some (.lst vs) ∧ RpAll H' vs ds ∧ ds.length = i ∧ (∀ d ∈ ds, Pd d) ∧ Tray H' t g (n0 + c * i) ∧ Kp t g H1 H'
theorem GenL.start {t g D : Addr} {H1 : Hp} {n0 c : Nat} {Pd : PyData → Prop} (T : Tray H1 t g n0) (hD : H1 D = none) : GenL t g D H1 n0 c Pd 0 (upd H1 D (.lst [])) :=
  ⟨[], [], upd_same, .nil, rfl, fun _ h => (nomatch h), (T.new hD).mono (by omega), Kp.new hD⟩
theorem GenL.tray {t g D : Addr} {H1 H2 : Hp} {n0 c i : Nat} {Pd : PyData → Prop} (h : GenL t g D H1 n0 c Pd i H2) : Tray H2 t g (n0 + c * i) := by
  obtain ⟨_, _, _, _, _, _, T, _⟩ := h
  exact T
theorem GenL.step {t g D : Addr} {H1 H2 H4 : Hp} {n0 c i n : Nat} {Pd : PyData → Prop} {y : V} {d : PyData} (h : GenL t g D H1 n0 c Pd i H2) (T1 : Tray H1 t g n0) (hD : H1 D = none) (hi : i ≤ 1000) (T : Tray H4 t g n) (hn : n ≤ n0 + c * i + c) (k : Kp t g H2 H4) (r : Rp H4 y d) (p : Pd d) :
    ∃ acc, H4 D = some (.lst acc) ∧ acc.length < sizeLine ∧ GenL t g D H1 n0 c Pd (i + 1) (upd H4 D (.lst (acc ++ [y]))) := by
  obtain ⟨vs, ds, e, ra, hl, hp, T2, k2⟩ := h
  have e4 : H4 D = some (.lst vs) := k D _ e (T1.net hD) (T1.neg hD)
  have tk : Tk H2 (upd H4 D (.lst (vs ++ [y]))) := (k.tk T2).trans (Tk.lst e4)
  refine ⟨vs, e4, by rw [ra.length, hl]; exact small1000 hi, vs ++ [y], ds ++ [d], upd_same, (ra.keep tk).append (.cons (r.keep (Tk.lst e4)) .nil), by simp [hl], fun z hz => ?_, (T.put (T1.net hD) (T1.neg hD)).mono (by rw [Nat.mul_succ]; omega), (k2.trans k).put hD⟩
  rcases List.mem_append.mp hz with q | q
  · exact hp z q
  · rw [List.mem_singleton.mp q]
    exact p
theorem map_of {α : Type} {f : α → PyData} {Pp : α → Prop} : ∀ (ds : List PyData), (∀ d ∈ ds, ∃ x, d = f x ∧ Pp x) → ∃ xs : List α, ds = xs.map f ∧ ∀ x ∈ xs, Pp x
  | [], _ => ⟨[], rfl, fun _ h => (nomatch h)⟩
  | d :: ds, h => by
    obtain ⟨x, e, p⟩ := h d (List.mem_cons_self ..)
    obtain ⟨xs, e2, p2⟩ := map_of ds fun z hz => h z (List.mem_cons_of_mem _ hz)
    refine ⟨x :: xs, by rw [e, e2]; rfl, fun z hz => ?_⟩
    rcases List.mem_cons.mp hz with q | q
    · rw [q]
      exact p
    · exact p2 z q
def SgForm (s : Sg) : Prop := ∀ r ∈ s.rs, RwForm r
/-- three sorted numbers -/
theorem three_sorted {ns ns' : List Int} (hl : ns.length = 3) (hp : ns'.Perm ns) (hs : ns'.Pairwise (· ≤ ·)) : ∃ a b c, ns' = [a, b, c] ∧ a ≤ b ∧ b ≤ c ∧ a ∈ ns ∧ b ∈ ns ∧ c ∈ ns := by
  have h3 : ns'.length = 3 := hp.length_eq.trans hl
  match ns', h3, hs, hp with
  | [a, b, c], _, hs, hp =>
    rw [List.pairwise_cons, List.pairwise_cons] at hs
    exact ⟨a, b, c, rfl, hs.1 b (by simp), hs.2.1 c (by simp), hp.mem_iff.mp (by simp), hp.mem_iff.mp (by simp), hp.mem_iff.mp (by simp)⟩
/-- an item of a written list of ints at an open place -/
theorem at_int {l : List Int} {r : Int} (h0 : 0 ≤ r) (h1 : r < l.length) : ∃ w, w ∈ l ∧ atI (l.map V.int) r = some (.int w) := by
  have e : r = ((r.toNat : Nat) : Int) := by omega
  have hl : r.toNat < l.length := by omega
  refine ⟨l[r.toNat], List.getElem_mem hl, ?_⟩
  refine at_of e ?_
  rw [List.getElem?_map, List.getElem?_eq_getElem (by omega)]
  simp
/-! ### a comprehension of things that are told by what is walked -/
def CompL {β : Type} (D : Addr) (H1 : Hp) (xs : List β) (f : β → V) (i : Nat) (H' : Hp) : Prop := H' D = some (.lst ((xs.take i).map f)) ∧ Same H1 H'
theorem CompL.start {β : Type} {D : Addr} {H1 : Hp} {xs : List β} {f : β → V} (hD : H1 D = none) : CompL D H1 xs f 0 (upd H1 D (.lst [])) := ⟨upd_same, same_upd hD⟩
theorem take_snoc {β : Type} {xs : List β} {i : Nat} {b : β} (h : xs[i]? = some b) : xs.take (i + 1) = xs.take i ++ [b] := by
  rw [List.take_add_one, h]
  rfl
theorem CompL.step {β : Type} {D : Addr} {H1 H2 H4 : Hp} {xs : List β} {f : β → V} {i : Nat} {b : β} {y : V} (h : CompL D H1 xs f i H2) (hD : H1 D = none) (hi : i ≤ 1000) (hb : xs[i]? = some b) (k : Same H2 H4) (e : y = f b) :
    ∃ acc, H4 D = some (.lst acc) ∧ acc.length < sizeLine ∧ CompL D H1 xs f (i + 1) (upd H4 D (.lst (acc ++ [y]))) := by
  obtain ⟨h1, s1⟩ := h
  refine ⟨_, k _ _ h1, ?_, ?_, fun c o q => ?_⟩
  · rw [List.length_map, List.length_take]
    exact small1000 (by omega)
  · rw [upd_same, take_snoc hb, List.map_append, e]
    rfl
  · rw [upd_ne (ne_of_none q hD)]
    exact k _ _ (s1 _ _ q)
theorem CompL.end {β : Type} {D : Addr} {H1 H2 : Hp} {xs : List β} {f : β → V} {n : Nat} (h : CompL D H1 xs f n H2) (hn : n = xs.length) : H2 D = some (.lst (xs.map f)) := by
  subst hn
  have := h.1
  rwa [List.take_length] at this
/-- all([..]) of truths -/
theorem rd_all {β : Type} {K : PySem.W.Frag} {H : Hp} {Q : VK} {D : Addr} {xs : List β} {f : β → Bool} (h : H D = some (.lst (xs.map fun x => V.bl (f x)))) (q : Q (.bl (xs.all f)) H) : rAll K [.ref D] H Q := by
  refine ⟨D, xs.map f, rfl, SqL.of ?_, ?_⟩
  · rw [h, List.map_map]
    rfl
  · rw [List.all_map]
    exact q
theorem fits_zip : ∀ (cs : List Nat) (ns : List Int) (m : Int), (cs.zip ns).all (fun p => numFits p.1 p.2 m) = fitsNs cs ns m
  | [], _, _ => by unfold fitsNs; rfl
  | _ :: _, [], _ => rfl
  | c :: cs, n :: ns, m => by
    rw [List.zip_cons_cons, List.all_cons, fits_zip cs ns m]
    rfl
/-- zip(text, tuple) -/
theorem walk_zipS {K : PySem.W.Frag} {x : Str} {b : Addr} {ys : List V} {n : Nat} (hn : n = min x.cps.size ys.length) : Walk (ItzS K x b) n (fun H => SqT K H b ys) (YPair (fun i => (x.cps[i]?).map fun c => V.str ⟨#[c]⟩) (fun i => ys[i]?)) := by
  subst hn
  refine ⟨fun i H hi q => ?_, fun H q => ⟨ys, q, rfl⟩, fun i H v H' hi q y => ?_⟩
  · have h1 : i < x.cps.size := by omega
    have h2 : i < ys.length := by omega
    exact ⟨ys, x.cps[i], ys[i], q, by simp [h1], by simp [h2]⟩
  · obtain ⟨T, c, z, h1, h2, h3, h4, h5⟩ := y
    exact ⟨T, _, z, h1, h2, h3, by show (x.cps[i]?).map _ = _; rw [h4]; rfl, h5 ys q⟩
/-! ### more steps -/
theorem rd_ifnT {A B : Prop} (h : B) : if (!true) = true then A else B := iteF h
theorem rd_ifnF {A B : Prop} (h : A) : if (!false) = true then A else B := iteT h
section
variable {σ : L2.St} {H : Hp} {Q : VK} {K : PySem.W.Frag} {R : L2.St → Hp → Prop}
theorem rd_izipS {ta : TA} {R : It → Hp → Prop} (h : ta σ H fun vs H1 => ∃ (x : PySem.Str) (b : Addr) (ys : List V), vs = [.str x, .ref b] ∧ SqT K H1 b ys ∧ R (ItzS K x b) H1) : iZipS K ta σ H R := h
theorem rd_ienum {ta : TA} {R : It → Hp → Prop} (h : ta σ H fun vs H1 => ∃ a xs, vs = [.ref a] ∧ SqL K H1 a xs ∧ R (Ite K a) H1) : iEnum K ta σ H R := h
theorem rd_ixT0 {p : Addr} {x : V} {xs : List V} (h : H p = some (.tup (x :: xs))) (q : Q x H) : rIxT K (.ref p) (.int 0) H Q := ⟨p, x :: xs, 0, x, rfl, rfl, SqT.of h, atI_nat (j := 0) rfl, q⟩
theorem rd_gtup {n : Nat} {t : TGs} {a : Addr} {xs : List V} (h : H a = some (.tup xs)) (hl : xs.length = n) (q : t xs σ H R) : gTup K n t (.ref a) σ H R := ⟨a, xs, rfl, SqT.of h, hl, q⟩
theorem rd_gcons {t : TG} {u : TGs} {v : V} {r : List V} (q : t v σ H fun σ' H' => u r σ' H' R) : gCons t u (v :: r) σ H R := ⟨v, r, rfl, q⟩
theorem rd_gnil (q : R σ H) : gNil [] σ H R := ⟨rfl, q⟩
theorem rd_part {te : TE} {S : Option Int → Hp → Prop} (h : te σ H fun x H1 => ∃ i, x = .int i ∧ S (some i) H1) : tPart te σ H S := h
theorem rd_nopart {S : Option Int → Hp → Prop} (h : S none H) : tNoPart σ H S := h
theorem rd_cut1 {p : Addr} {x : V} {xs : List V} (h : H p = some (.tup (x :: xs))) (q : ∀ p', H p' = none → Q (.ref p') (upd H p' (.tup xs))) : rSlT K (.ref p) (some 1) none H Q := by
  refine ⟨p, x :: xs, rfl, SqT.of h, ?_, fun p' hp' => ?_⟩
  · rintro ⟨h1, _⟩
    simp [HT.sIx] at h1
  · have e : cutV (x :: xs) (some 1) none = xs := by
      unfold cutV
      simp [HT.sIx]
    rw [e]
    exact q p' hp'
end
/-- ROW_FORMS -/
def GFo (K : PySem.W.Frag) (w : World) (mg : Str → Option Value) : Prop := ∃ a, mg "ROW_FORMS" = some (.ref a) ∧ KIsD K a ∧ ∀ z l, formOf z = some l → KGot K w a z (some (.str l))
def tFo (K : PySem.W.Frag) (w : World) : TE := fun _ H Q => ∀ a, KIsD K a → (∀ z l, formOf z = some l → KGot K w a z (some (.str l))) → Q (.ref a) H
theorem pe_fo {X : Cx} {pos : Pos} (h : GFo X.K X.w X.mg) (hg : Gl X "ROW_FORMS") : PE X (.Name "ROW_FORMS" pos) (tFo X.K X.w) := by
  obtain ⟨a, e, q1, q2⟩ := h
  have p : PE X (.Name "ROW_FORMS" pos) (tC (.ref a)) := pe_glob hg e rfl
  exact ⟨fun pins s σ H Q I hw => p.run pins s σ H Q I (hw a q1 q2)⟩
theorem rd_fo {K : PySem.W.Frag} {w : World} {ty : TE} {σ : L2.St} {H : Hp} {Q : VK} (h : ty σ H fun y H2 => ∃ z l, y = .str z ∧ formOf z = some l ∧ Q (.str l) H2)
    (mono : ∀ R R' : VK, (∀ v H, R v H → R' v H) → ty σ H R → ty σ H R') : tKGet K w (tFo K w) ty σ H Q := fun a k1 k2 => by
  refine ⟨a, rfl, k1, mono _ _ (fun v H2 q => ?_) h⟩
  obtain ⟨z, l, e1, e2, q⟩ := q
  exact ⟨z, some (.str l), e1, k2 z l e2, q⟩
theorem form_len {l : Str} {w : Str} (h : formOf w = some l) : l.length ≤ 3 := by
  have : ∀ p ∈ rowForms, p.2.length ≤ 3 := by decide +kernel
  have hm : (w, l) ∈ rowForms := by
    have e : rowForms.lookup w = some l := h
    have : ∀ (L : List (Str × Str)) w l, L.lookup w = some l → (w, l) ∈ L := by
      intro L
      induction L with
      | nil => intro w l e; cases e
      | cons p L ih =>
        intro w l e
        rw [List.lookup_cons] at e
        by_cases hw : (w == p.1) = true
        · rw [hw] at e
          simp at e
          have : w = p.1 := by simpa using hw
          subst this
          subst e
          exact List.mem_cons_self ..
        · simp only [hw] at e
          exact List.mem_cons_of_mem _ (ih w l e)
    exact this _ w l e
  exact this _ hm
/-! ### data that may be compared -/
theorem DpAll.length {K : PySem.W.Frag} {H : Hp} : ∀ {ds : List PyData} {vs : List V}, DpAll K H vs ds → vs.length = ds.length
  | _, _, .nil => rfl
  | _, _, .cons _ t => congrArg Nat.succ (DpAll.length t)
theorem DpAll.get2 {K : PySem.W.Frag} {H : Hp} : ∀ {ds : List PyData} {vs : List V} {i : Nat} {d : PyData}, DpAll K H vs ds → ds[i]? = some d → ∃ v, vs[i]? = some v ∧ Dp K H v d
  | _, _, _, _, .nil, e => by simp at e
  | _, _, 0, _, .cons h _, e => by
    simp at e
    subst e
    exact ⟨_, rfl, h⟩
  | _, _, i + 1, _, .cons _ t, e => by
    obtain ⟨d, h1, h2⟩ := DpAll.get2 (i := i) t (by simpa using e)
    exact ⟨d, by simpa using h1, h2⟩
theorem Dp.lst_inv {K : PySem.W.Frag} {H : Hp} {v : V} {ds : List PyData} (h : Dp K H v (.list ds)) : ∃ a xs, v = .ref a ∧ SqL K H a xs ∧ DpAll K H xs ds := by
  cases h with
  | lst a b => exact ⟨_, _, rfl, a, b⟩
theorem Dp.tup_inv {K : PySem.W.Frag} {H : Hp} {v : V} {ds : List PyData} (h : Dp K H v (.tuple ds)) : ∃ a xs, v = .ref a ∧ SqT K H a xs ∧ DpAll K H xs ds := by
  cases h with
  | tup a b => exact ⟨_, _, rfl, a, b⟩
theorem tyT {K : PySem.W.Frag} {H : Hp} {a : Addr} {xs : List V} (h : SqT K H a xs) : TyX K H (.ref a) (.type "tuple") := by
  rcases h with (h | ⟨o, h⟩) | ⟨o, its, n, h1, h2, _⟩
  · exact .base (.tup h)
  · exact .fTuple h
  · exact .kTuple h1 h2
theorem tyL {K : PySem.W.Frag} {H : Hp} {a : Addr} {xs : List V} (h : SqL K H a xs) : TyX K H (.ref a) (.type "list") := by
  rcases h with (h | ⟨o, h⟩) | ⟨o, its, n, h1, h2, _⟩
  · exact .base (.lst h)
  · exact .base (.frz h)
  · exact .kList h1 h2
/-- data of at most so many levels, no dict, no list above a million -/
def okN : Nat → PyData → Prop
  | 0, _ => False
  | _ + 1, .none => True
  | _ + 1, .bool _ => True
  | _ + 1, .int _ => True
  | _ + 1, .str _ => True
  | j + 1, .list ds => ds.length ≤ 1000000 ∧ ∀ e ∈ ds, okN j e
  | j + 1, .tuple ds => ds.length ≤ 1000000 ∧ ∀ e ∈ ds, okN j e
  | _ + 1, .dict _ => False
theorem ok_int (n : Int) (j : Nat) : okN (j + 1) (.int n) := trivial
theorem ok_str (n : Str) (j : Nat) : okN (j + 1) (.str n) := trivial
theorem ok_ints (ns : List Int) (j : Nat) : ∀ e ∈ ns.map PyData.int, okN (j + 1) e := fun e he => by
  obtain ⟨n, _, rfl⟩ := List.mem_map.mp he
  trivial
theorem Wd.ok (x : Wd) : okN 2 x.d := by
  cases x with
  | num n => exact ⟨by show 2 ≤ 1000000; decide, fun e he => by rcases List.mem_cons.mp he with rfl | he; exact trivial; rcases List.mem_cons.mp he with rfl | he; exact trivial; cases he⟩
  | ptr r s p => exact ⟨by show 4 ≤ 1000000; decide, fun e he => by
      rcases List.mem_cons.mp he with rfl | he; exact trivial
      exact ok_ints [r, s, p] 0 e he⟩
theorem Rw.ok {x : Rw} (h : RwForm x) : okN 2 x.d := by
  obtain ⟨l, h1, h2⟩ := h
  have := form_len h1
  have e : l.length = l.cps.size := rfl
  refine ⟨?_, fun e he => ?_⟩
  · rw [List.length_cons, List.length_map]
    omega
  · rcases List.mem_cons.mp he with rfl | he
    · trivial
    · exact ok_ints x.ns 0 e he
theorem Sg.ok {x : Sg} (h : SgForm x) (l1 : x.ws.length ≤ 1000000) (l2 : x.rs.length ≤ 1000000) : okN 4 x.d := by
  refine ⟨by show 5 ≤ 1000000; decide, fun e he => ?_⟩
  rcases List.mem_cons.mp he with rfl | he
  · exact ⟨by show 3 ≤ 1000000; decide, ok_ints [x.r1, x.r2, x.r3] 1⟩
  rcases List.mem_cons.mp he with rfl | he
  · trivial
  rcases List.mem_cons.mp he with rfl | he
  · trivial
  rcases List.mem_cons.mp he with rfl | he
  · refine ⟨by rw [List.length_map]; exact l1, fun e he => ?_⟩
    obtain ⟨n, _, rfl⟩ := List.mem_map.mp he
    exact n.ok
  rcases List.mem_cons.mp he with rfl | he
  · refine ⟨by rw [List.length_map]; exact l2, fun e he => ?_⟩
    obtain ⟨n, hn, rfl⟩ := List.mem_map.mp he
    exact Rw.ok (h n hn)
  cases he
def spAlike (K : PySem.W.Frag) (j : Nat) : Sp := fun vs H Q _ => ∃ (x y : V) (d : PyData), vs = [x, y] ∧ Dp K H x d ∧ Dp K H y d ∧ okN j d ∧ Q (.bl true) H
theorem rd_ixLs {K : PySem.W.Frag} {H : Hp} {Q : VK} {p : Addr} {xs : List V} {i : Int} {v : V} (h : SqL K H p xs) (e : atI xs i = some v) (q : Q v H) : rIx K (.ref p) (.int i) H Q := .inl ⟨p, xs, i, v, rfl, rfl, h, e, q⟩
theorem rd_ixTs {K : PySem.W.Frag} {H : Hp} {Q : VK} {p : Addr} {xs : List V} {i : Int} {v : V} (h : SqT K H p xs) (e : atI xs i = some v) (q : Q v H) : rIx K (.ref p) (.int i) H Q := .inr (.inl ⟨p, xs, i, v, rfl, rfl, h, e, q⟩)
end Rg

/-! methods, the class Machine -/
namespace Rg
open PySem PySem.Spec L2
structure Mth (P : Program) (w : World) (K : PySem.W.Frag) (mg : Str → Option Value) (base : Heap) (C : Addr) (m : Str) (k : Nat) (ps : List Str) (sp : Sp) : Prop where
  ex : ∃ (f : Addr) (fd : FuncData), Meth K C m f ∧ Binds K fd ps [] ∧ FnOk P w K mg base CX0 k f fd ps sp
section
variable {X : Cx} {C : Addr} {k : Nat} {ps : List Str} {sp : Sp} {m : Str} {pos apos : Pos} {e o : Expr} {es : List Expr} {t : TA} {ta : TE}
theorem pe_mth {pl : Sem Bool} (M : Mth X.prog X.w X.K X.mg X.base C m k ps sp) (c : Cls X.K C) (hr : Room k X.A) (he : PE X o ta) (ha : PA X (e :: es) t)
    (hst : starEach (e :: es) X.env = (false, eval e X.env) :: starEach es X.env := by rfl) (hpl : (backTo pos (starEach es X.env)).any (·.1) = false := by rfl)
    (ht : eval (.Call (.Attribute o m apos) (e :: es) [] pos) X.env = (do
      let ov ← eval o X.env
      standAt apos.atName
      let (f, first) ← holding [ov] (getMethod ov m pl)
      callWith pos f first (backTo pos (starEach (e :: es) X.env)) (backToKw pos (keywordEach [] X.env))) := by rfl) :
    PE X (.Call (.Attribute o m apos) (e :: es) [] pos) (tMeth C m sp [] E0 ta t) := by
  obtain ⟨f, fd, hm, hb, F⟩ := M.ex
  exact pe_meth he c hm F hr hb .nil pass0 ha hst hpl ht
theorem pe_mth0 {pl : Sem Bool} (M : Mth X.prog X.w X.K X.mg X.base C m k ps sp) (c : Cls X.K C) (hr : Room k X.A) (he : PE X o ta)
    (ht : eval (.Call (.Attribute o m apos) [] [] pos) X.env = (do
      let ov ← eval o X.env
      standAt apos.atName
      let (f, first) ← holding [ov] (getMethod ov m pl)
      callWith pos f first (backTo pos (starEach [] X.env)) (backToKw pos (keywordEach [] X.env))) := by rfl) :
    PE X (.Call (.Attribute o m apos) [] [] pos) (tMeth C m sp [] E0 ta tNil) := by
  obtain ⟨f, fd, hm, hb, F⟩ := M.ex
  exact pe_meth0 he c hm F hr hb .nil pass0 ht
/-- len(o) by an own __len__ -/
theorem cr_len (M : Mth X.prog X.w X.K X.mg X.base C "__len__" k ps sp) (hr : Room (k + 1) X.A) : CallR X (.builtin "len") (rLenO C sp E0) := by
  obtain ⟨f, fd, hm, hb, F⟩ := M.ex
  exact call_lenO hm F hr hb pass0
end
section
variable {σ : L2.St} {H : Hp} {Q : VK} {K : PySem.W.Frag} {D : Ends}
theorem rd_ixL0 {p : Addr} {x : V} {xs : List V} (h : H p = some (.lst (x :: xs))) (q : Q x H) : rIxL K (.ref p) (.int 0) H Q := ⟨p, x :: xs, 0, x, rfl, rfl, SqL.of h, atI_nat (j := 0) rfl, q⟩
theorem rd_fld {ta : TE} {f : Str} (h : ta σ H fun x H1 => ∃ a C dx fs v, x = .ref a ∧ H1 a = some (.ins C dx fs) ∧ Cls K C ∧ NoAttr K C f ∧ fs.lookup f = some v ∧ Q v H1) : tFld K ta f σ H Q := h
theorem rd_sfld {ta tv : TE} {f : Str} (h : tv σ H fun y H1 => ta σ H1 fun x H2 => ∃ a C dx fs, x = .ref a ∧ H2 a = some (.ins C dx fs) ∧ Cls K C ∧ NoAttr K C f ∧ fs.length < 1000 ∧ D.nx σ (upd H2 a (.ins C dx (putF f y fs)))) : sFld K ta tv f D σ H := h
theorem rd_meth {C : Addr} {m : Str} {sp : Sp} {dvs : List V} {E : XK} {ta : TE} {t : TA} (h : ta σ H fun x H1 => ∃ a dx fs, x = .ref a ∧ H1 a = some (.ins C dx fs) ∧ fs.lookup m = none ∧ t σ H1 fun vs H2 => sp (x :: (vs ++ dvs)) H2 Q E) : tMeth C m sp dvs E ta t σ H Q := h
theorem rd_make {C : Addr} {sp : Sp} {dvs : List V} {E : XK} {t : TA} (h : t σ H fun vs H1 => ∀ x dx, H1 x = none → H1 dx = none → dx ≠ x → sp (.ref x :: (vs ++ dvs)) (upd (upd H1 dx (.own x)) x (.ins C dx [])) (fun v H2 => v = .non ∧ Q (.ref x) H2) E) : tMake C sp dvs E t σ H Q := h
theorem rd_makeK {C : Addr} {n m : Nat} {sp : Sp} {gV : List V → List V → List V} {E : XK} {t tk : TA} (h : t σ H fun vs H1 => tk σ H1 fun zs H2 => vs.length = n ∧ zs.length = m ∧ ∀ x dx, H2 x = none → H2 dx = none → dx ≠ x →
  sp (gV (.ref x :: vs) zs) (upd (upd H2 dx (.own x)) x (.ins C dx [])) (fun v H3 => v = .non ∧ Q (.ref x) H3) E) : tMakeK C n m sp gV E t tk σ H Q := h
end
/-! ### rules that name K -/
def rLenS (K : PySem.W.Frag) : List V → Hp → VK → Prop := fun xs H Q => ∃ p ys, xs = [.ref p] ∧ (SqL K H p ys ∨ SqT K H p ys) ∧ Q (.int ys.length) H
def rTupOf (K : PySem.W.Frag) : List V → Hp → VK → Prop := fun xs H Q => ∃ p ys, xs = [.ref p] ∧ ((SqL K H p ys ∧ ∀ l, H l = none → Q (.ref l) (upd H l (.tup ys))) ∨ (SqT K H p ys ∧ Q (.ref p) H))
def rListOf (K : PySem.W.Frag) : List V → Hp → VK → Prop := fun xs H Q => ∃ p ys, xs = [.ref p] ∧ (SqL K H p ys ∨ SqT K H p ys) ∧ ∀ l, H l = none → Q (.ref l) (upd H l (.lst ys))
section
variable {X : Cx} {K : PySem.W.Frag}
theorem cr_lenS (h : X.K = K := by rfl) : CallR X (.builtin "len") (rLenS K) := by subst h; exact call_len_seq
theorem cr_tupOf (h : X.K = K := by rfl) : CallR X (.type "tuple") (rTupOf K) := by subst h; exact call_tuple_of
theorem cr_listOf (h : X.K = K := by rfl) : CallR X (.type "list") (rListOf K) := by subst h; exact call_list_of
theorem pe_fldK {e : Expr} {f : Str} {pos : Pos} {ta : TE} (he : PE X e ta) (hb : attributeBase e f X.env (eval e X.env) = eval e X.env) (h : X.K = K := by rfl) : PE X (.Attribute e f pos) (tFld K ta f) := by subst h; exact pe_fld he hb
theorem ps_fldK {o value : Expr} {f : Str} {pos pos' : Pos} {ta tv : TE} (ha : PE X o ta) (hv : PE X value tv) (hs : swapsWith value (some (.Attribute o f pos')) pos.line X.env = pure false) (h : X.K = K := by rfl) : PS X (.Assign [.Attribute o f pos'] value pos) (sFld K ta tv f) := by subst h; exact ps_fld ha hv hs
end
/-- a machine's fields -/
def mFlds (q : Addr) (b : Int) : List (Str × V) := putF "base" (.int b) (putF "segments" (.ref q) [])
theorem mFlds_s (q : Addr) (b : Int) : (mFlds q b).lookup ("segments" : Str) = some (.ref q) := by
  unfold mFlds
  rw [lookup_putF, if_neg (by decide +kernel), lookup_putF, if_pos rfl]
theorem mFlds_b (q : Addr) (b : Int) : (mFlds q b).lookup ("base" : Str) = some (.int b) := by
  unfold mFlds
  rw [lookup_putF, if_pos rfl]
theorem mFlds_no (q : Addr) (b : Int) {m : Str} (h1 : ¬ m = "base") (h2 : ¬ m = "segments") : (mFlds q b).lookup m = none := by
  unfold mFlds
  rw [lookup_putF, if_neg h1, lookup_putF, if_neg h2]
  rfl
/-- the class Machine, as the top leaves it -/
structure MC (K : PySem.W.Frag) (mg : Str → Option Value) (C : Addr) : Prop where
  cl : Cls K C
  nS : NoAttr K C "segments"
  nB : NoAttr K C "base"
  mgC : mg "Machine" = some (.ref C)
/-- a machine stands at x: its segments at q are the items vs -/
structure MAt (C : Addr) (H : Hp) (x : Addr) (vs : List V) (b : Int) : Prop where
  ex : ∃ dx q, H x = some (.ins C dx (mFlds q b)) ∧ H q = some (.tup vs)
theorem MAt.keep {C : Addr} {H H' : Hp} {x : Addr} {vs : List V} {b : Int} (h : MAt C H x vs b) (hx : ∀ o, H x = some o → H' x = some o) (tk : Tk H H') : MAt C H' x vs b := by
  obtain ⟨dx, q, h1, h2⟩ := h
  exact ⟨dx, q, hx _ h1, tk _ _ h2⟩
theorem MAt.same {C : Addr} {H H' : Hp} {x : Addr} {vs : List V} {b : Int} (h : MAt C H x vs b) (s : Same H H') : MAt C H' x vs b := h.keep (fun o => s x o) (Tk.of s)
/-- what __init__ is handed, where it makes a machine -/
def spInit (C : Addr) : Sp := fun vs H Q _ => ∃ (x dx L : Addr) (us : List V) (xs : List Sg) (b : Int), vs = [.ref x, .ref L, .int b] ∧ H x = some (.ins C dx []) ∧ H L = some (.lst us) ∧ RpAll H us (xs.map Sg.d) ∧ 1 ≤ xs.length ∧ xs.length ≤ 8 ∧ 2 ≤ b ∧ (∀ y ∈ xs, SgForm y ∧ sgFits y b xs.length = true) ∧
  ∀ H', MAt C H' x us b → (∀ c o, H c = some o → c ≠ x → H' c = some o) → Q .non H'
def spSegAt (C : Addr) : Sp := fun vs H Q _ => ∃ (x : Addr) (us : List V) (b k : Int) (v : V), vs = [.ref x, .int k] ∧ MAt C H x us b ∧ 0 ≤ k ∧ k < us.length ∧ us[k.toNat]? = some v ∧ Q v H
def spLen (C : Addr) : Sp := fun vs H Q _ => ∃ (x : Addr) (us : List V) (b : Int), vs = [.ref x] ∧ MAt C H x us b ∧ Q (.int us.length) H
theorem sg_small {x : Sg} {b m : Int} (h : sgFits x b m = true) : x.ws.length ≤ 16 ∧ x.rs.length ≤ 24 := by
  unfold sgFits at h
  simp only [Bool.and_eq_true, decide_eq_true_eq] at h
  exact ⟨h.2.2.2.1, h.2.2.2.2.1⟩
/-! ### data that == takes -/
theorem form_mem {w l : Str} (h : formOf w = some l) : (w, l) ∈ rowForms := by
  have e : rowForms.lookup w = some l := h
  have : ∀ (L : List (Str × Str)) w l, L.lookup w = some l → (w, l) ∈ L := by
    intro L
    induction L with
    | nil => intro w l e; cases e
    | cons p L ih =>
      intro w l e
      rw [List.lookup_cons] at e
      by_cases hw : (w == p.1) = true
      · rw [hw] at e
        simp at e
        have : w = p.1 := by simpa using hw
        subst this
        subst e
        exact List.mem_cons_self ..
      · simp only [hw] at e
        exact List.mem_cons_of_mem _ (ih w l e)
  exact this _ w l e
theorem lay_map {α : Type} {f : α → PyData} : ∀ (xs : List α), (∀ x ∈ xs, (f x).canLay0 = true) → PyData.canLayAll0 (xs.map f) = true
  | [], _ => rfl
  | x :: xs, h => by
    show (PyData.canLay0 (f x) && PyData.canLayAll0 (xs.map f)) = true
    rw [h x (List.mem_cons_self ..), lay_map xs fun y hy => h y (List.mem_cons_of_mem _ hy)]
    rfl
theorem Wd.lay (x : Wd) : x.d.canLay0 = true := by
  cases x with
  | num n => show (PyData.canLay0 (.str "num") && (true && true)) = true; decide +kernel
  | ptr r s p => show (PyData.canLay0 (.str "ptr") && PyData.canLayAll0 ([r, s, p].map PyData.int)) = true; rw [lay_map [r, s, p] fun _ _ => rfl]; decide +kernel
theorem Rw.lay {x : Rw} (h : RwForm x) : x.d.canLay0 = true := by
  obtain ⟨l, h1, h2⟩ := h
  have h3 : ∀ p ∈ rowForms, PyData.canLay0 (.str p.1) = true := by decide +kernel
  show (PyData.canLay0 (.str x.op) && PyData.canLayAll0 (x.ns.map PyData.int)) = true
  rw [h3 _ (form_mem h1), lay_map x.ns fun _ _ => rfl]
  rfl
theorem ri_mem {x : Str} (h : riFits x = true) : x ∈ rightsL := by
  unfold riFits inV at h
  rw [List.any_map, List.any_eq_true] at h
  obtain ⟨y, hy, e⟩ := h
  have e' : y = x := by simpa [eqV] using e
  rw [← e']
  exact hy
theorem sg_parts {x : Sg} {b m : Int} (h : sgFits x b m = true) : brFits x.r1 x.r2 x.r3 = true ∧ riFits x.ri = true ∧ below x.ga (x.rs.length + 1) = true ∧ x.ws.length ≤ 16 ∧ x.rs.length ≤ 24 ∧ (∀ y ∈ x.ws, wdFits y b m = true) ∧ ∀ y ∈ x.rs, rowFits y m = true := by
  unfold sgFits at h
  simp only [Bool.and_eq_true, decide_eq_true_eq, List.all_eq_true] at h
  exact h
theorem Sg.lay {x : Sg} {b m : Int} (h : SgForm x) (hf : sgFits x b m = true) : x.d.canLay0 = true := by
  have h3 : ∀ r ∈ rightsL, PyData.canLay0 (.str r) = true := by decide +kernel
  show (PyData.canLayAll0 ([x.r1, x.r2, x.r3].map PyData.int) && (PyData.canLay0 (.str x.ri) && (true && (PyData.canLayAll0 (x.ws.map Wd.d) && (PyData.canLayAll0 (x.rs.map Rw.d) && true))))) = true
  rw [lay_map [x.r1, x.r2, x.r3] fun _ _ => rfl, h3 _ (ri_mem (sg_parts hf).2.1), lay_map x.ws fun y _ => y.lay, lay_map x.rs fun y hy => Rw.lay (h y hy)]
  rfl
theorem depth_ok : ∀ (j : Nat) (d : PyData), okN j d → d.depth ≤ j
  | 0, _, h => h.elim
  | j + 1, .none, _ => Nat.zero_le _
  | j + 1, .bool _, _ => Nat.zero_le _
  | j + 1, .int _, _ => Nat.zero_le _
  | j + 1, .str _, _ => Nat.zero_le _
  | j + 1, .dict _, h => h.elim
  | j + 1, .list ds, h => by
    have : ∀ ds : List PyData, (∀ e ∈ ds, okN j e) → PyData.depthAll ds ≤ j := fun ds => by
      induction ds with
      | nil => intro _; exact Nat.zero_le _
      | cons a r ih =>
        intro h
        have h1 := depth_ok j a (h a (List.mem_cons_self ..))
        have h2 := ih fun e he => h e (List.mem_cons_of_mem _ he)
        show max (PyData.depth a) (PyData.depthAll r) ≤ j
        omega
    show PyData.depthAll ds + 1 ≤ j + 1
    have := this ds h.2
    omega
  | j + 1, .tuple ds, h => by
    have : ∀ ds : List PyData, (∀ e ∈ ds, okN j e) → PyData.depthAll ds ≤ j := fun ds => by
      induction ds with
      | nil => intro _; exact Nat.zero_le _
      | cons a r ih =>
        intro h
        have h1 := depth_ok j a (h a (List.mem_cons_self ..))
        have h2 := ih fun e he => h e (List.mem_cons_of_mem _ he)
        show max (PyData.depth a) (PyData.depthAll r) ≤ j
        omega
    show PyData.depthAll ds + 1 ≤ j + 1
    have := this ds h.2
    omega
theorem shaped_of {j : Nat} {d : PyData} (h1 : d.canLay0 = true) (h2 : okN j d) (hj : j ≤ 64) : SeqAt.shaped d = true := by
  unfold SeqAt.shaped
  rw [h1, decide_eq_true (Nat.le_trans (depth_ok j d h2) hj)]
  rfl
/-- a list of sound segments as data -/
theorem sgs_ok {xs : List Sg} {b m : Int} (hl : xs.length ≤ 1000) (h : ∀ x ∈ xs, SgForm x ∧ sgFits x b m = true) : (∀ d ∈ xs.map Sg.d, okN 4 d) ∧ okN 5 (.list (xs.map Sg.d)) ∧ SeqAt.shaped (.list (xs.map Sg.d)) = true ∧ PyData.eqv (.list (xs.map Sg.d)) (.list (xs.map Sg.d)) = true := by
  have h1 : ∀ d ∈ xs.map Sg.d, okN 4 d := fun d hd => by
    obtain ⟨x, hx, rfl⟩ := List.mem_map.mp hd
    have := sg_small (h x hx).2
    exact Sg.ok (h x hx).1 (by omega) (by omega)
  have h2 : okN 5 (.list (xs.map Sg.d)) := ⟨by rw [List.length_map]; omega, h1⟩
  have h3 : (PyData.list (xs.map Sg.d)).canLay0 = true := lay_map xs fun x hx => Sg.lay (h x hx).1 (h x hx).2
  exact ⟨h1, h2, shaped_of h3 h2 (by decide), SeqAt.eqv_refl _ h3⟩
end Rg

/-! the refusals: raised, let out, caught, asked -/
namespace Rg
open PySem PySem.Spec L2
/-! ### C.m(o, ..): a def read off its class -/
structure UbC (K : PySem.W.Frag) (mg : Str → Option Value) (x : Str) (m : Str) (f : Addr) : Prop where
  ex : ∃ (D : Addr) (mc : Value), mg x = some (.ref D) ∧ PySem.W.specialIn K (.ref D) "__getattribute__" = some (some (.builtin "type.__getattribute__")) ∧ PySem.W.typeIn K (.ref D) = some mc ∧ PySem.W.readsIn K D mc = true ∧ PySem.W.findCls K (.ref D) mc m = some (.val (.ref f)) ∧ PySem.W.keepIn K (.ref f) = true
section
variable {X : Cx} {k : Nat} {ps : List Str} {sp : Sp} {x m : Str} {f : Addr} {fd : FuncData} {p1 p2 pos : Pos} {e : Expr} {es : List Expr} {t : TA}
theorem pe_ubm {pl : Sem Bool} (U : UbC X.K X.mg x m f) (hg : Gl X x) (F : FnOk X.prog X.w X.K X.mg X.base CX0 k f fd ps sp) (hb : Binds X.K fd ps []) (hr : Room k X.A) (ha : PA X (e :: es) t) (hdb : (x == ("__debug__" : Str)) = false := by decide)
    (ht : eval (.Call (.Attribute (.Name x p1) m p2) (e :: es) [] pos) X.env = (do
      let ov ← eval (.Name x p1) X.env
      standAt p2.atName
      let (f, first) ← holding [ov] (getMethod ov m pl)
      callWith pos f first (backTo pos (starEach (e :: es) X.env)) (backToKw pos (keywordEach [] X.env))) := by rfl)
    (he : starEach (e :: es) X.env = (false, eval e X.env) :: starEach es X.env := by rfl) (hpl : (backTo pos (starEach es X.env)).any (·.1) = false := by rfl) :
    PE X (.Call (.Attribute (.Name x p1) m p2) (e :: es) [] pos) (tCall sp [] E0 t) := by
  obtain ⟨D, mc, hm, u1, u2, u3, u4, u5⟩ := U.ex
  refine ⟨fun pins s σ H Q I h => ?_⟩
  refine PySem.W.methodCall_KW (pl := pl) (ld_glob I hg hm ?_ hdb) ht
  obtain ⟨mm, fr⟩ := I.fr
  refine PySem.W.method_of_cls fr I.ok.mod.kin u1 (PySem.W.cls_val fr I.ok.mod.kin u2 u3 u4 rfl ?_)
  refine PySem.W.callWith_K (h₀ := X.base) I.ok.mod.kin u5 (thn (ha.run pos pins _ σ H _ (I.tok _) h) fun us s1 ⟨vs, H1, I1, r, q⟩ => ⟨I1.kIn, ?_⟩) he hpl
  exact run_fn F hr hb .nil pass0 I1 r q
end
/-- what an error may be made with -/
def Rbl (v : V) : Prop := v = .non ∨ ∃ i : Int, v = .int i ∧ i.natAbs.log2 < 1920
/-- {x!r} of None, an int -/
def tFmtX (te : TE) : TE := fun σ H Q => te σ H fun x H1 => Rbl x ∧ ∀ y : Str, y.length ≤ 2000 → Q (.str y) H1
theorem pe_fmtX {X : Cx} {e : Expr} {te : TE} {pos : Pos} (he : PE X e te) : PE X (.FormattedValue e 114 none pos) (tFmtX te) := by
  refine ⟨fun pins s σ H Q I h => ?_⟩
  refine wpAny_FormattedValue_repr (thn (he.run pins s σ H _ I h) fun v s1 ⟨x, H1, I1, r1, hx, q⟩ => ?_)
  rcases hx with rfl | ⟨i, rfl, hi⟩
  · obtain rfl : v = Value.none := r1
    have q' : EP X pins σ Q (Value.str "None" s1.toks) { s1 with toks := s1.toks + 1 } := ⟨.str "None", H1, I1.tok _, ⟨_, rfl⟩, q _ (by decide +kernel)⟩
    exact pyReprObj_none (wpAny_formatField_str q' ⟨.str "None", H1, I1.tok _, ⟨_, rfl⟩, q _ (by decide +kernel)⟩ (by decide +kernel))
  · obtain ⟨t, rfl⟩ := r1
    have l := PyProof.Rows.int_text_len_1921 hi
    have q2 := q (toString i) (Nat.le_trans l (by decide))
    exact pyReprObj_int hi (wpAny_formatField_str ⟨.str (toString i), H1, I1.tok _, ⟨_, rfl⟩, q2⟩ ⟨.str (toString i), H1, I1.tok _, ⟨_, rfl⟩, q2⟩ (int_text_fits hi))
/-- what the errors' __init__ does -/
def spRE (K : PySem.W.Frag) : Sp := fun vs H Q _ => ∃ (a C : Addr) (v : V), vs = [.ref a, v] ∧ Rbl v ∧ OexC K C ∧ PySem.W.findIn K (.ref C) "what" = some none ∧ H a = some (exo a C none) ∧
  ∀ d, H d = none → d ≠ a → Q .non (upd (upd H d (exd d [("what", v)])) a (exo a C (some d)))
/-- a class of errors, made with one value -/
structure Exk (P : Program) (w : World) (K : PySem.W.Frag) (mg : Str → Option Value) (base : Heap) (x : Str) (C : Addr) : Prop where
  oex : OexC K C
  wh : PySem.W.findIn K (.ref C) "what" = some none
  mgx : mg x = some (.ref C)
  xf : XfC K C
  ini : ∃ f fd, PySem.W.findIn K (.ref C) "__init__" = some (some (.ref f)) ∧ PySem.W.typeIn K (.ref f) = some (.type "function") ∧ Binds K fd ["self", "what"] [] ∧ FnOk P w K mg base CX0 2 f fd ["self", "what"] (spRE K)
def tRs (K : PySem.W.Frag) (C : Addr) (W : WX) (te : TE) : TS := fun _ σ H => tMkO C (spRE K) [] (tCons te tNil) σ H fun cls d H' => W cls d σ H'
theorem ps_raisew {X : Cx} {W : WX} {C : Addr} {x : Str} {e : Expr} {te : TE} {p pos pos' : Pos} (E : Exk X.prog X.w X.K X.mg X.base x C) (hc : X.calm = true) (tk : Takes X W) (hr : Room 3 X.A) (hg : Gl X x) (he : PE X e te) (hdb : (x == ("__debug__" : Str)) = false := by decide)
    (hst : starEach [e] X.env = (false, eval e X.env) :: starEach [] X.env := by rfl) (hpl : (backTo pos (starEach [] X.env)).any (·.1) = false := by rfl) : PS X (.Raise (some (.Call (.Name x p) [e] [] pos)) none pos') (tRs X.K C W te) := by
  obtain ⟨f, fd, i1, i2, b, F⟩ := E.ini
  exact ps_raise hc tk (pmk_oex E.oex i1 i2 F hr b .nil pass0 hg E.mgx (pa_cons he pa_nil hst) hdb hst hpl)
section
variable {σ : L2.St} {H : Hp} {Q : VK} {K : PySem.W.Frag} {D : Ends}
theorem rd_rs {C : Addr} {W : WX} {te : TE} (h : te σ H fun v H1 => [v].length ≤ 1000 ∧ ∀ a, H1 a = none → spRE K (.ref a :: ([v] ++ [])) (upd H1 a (exo a C none))
  (fun u H2 => u = .non ∧ ∃ (d : Addr) (fs : List (Str × V)), H2 a = some (exo a C (some d)) ∧ H2 d = some (exd d fs) ∧ H1 d = none ∧ W (.ref C) (some d) σ (upd (del H2 a) d (.xd fs))) (fun _ _ _ => False)) : tRs K C W te D σ H := h
theorem rd_mko {C : Addr} {v : V} {R : Option Addr → Hp → Prop} (T : OexC K C) (hw : PySem.W.findIn K (.ref C) "what" = some none) (hv : Rbl v) (q : ∀ d, H d = none → R (some d) (upd H d (.xd [("what", v)]))) :
    [v].length ≤ 1000 ∧ ∀ a, H a = none → spRE K (.ref a :: ([v] ++ [])) (upd H a (exo a C none)) (fun u H2 => u = .non ∧ ∃ (d : Addr) (fs : List (Str × V)), H2 a = some (exo a C (some d)) ∧ H2 d = some (exd d fs) ∧ H d = none ∧ R (some d) (upd (del H2 a) d (.xd fs))) (fun _ _ _ => False) := by
  refine ⟨by show 1 ≤ 1000; decide, fun a ha => ⟨a, C, v, rfl, hv, T, hw, upd_same, fun d hd ne => ⟨rfl, d, _, upd_same, by rw [upd_ne ne, upd_same], ?_, ?_⟩⟩⟩
  · rw [upd_ne ne] at hd
    exact hd
  · have hd' : H d = none := by rw [upd_ne ne] at hd; exact hd
    have e : upd (del (upd (upd (upd H a (exo a C none)) d (exd d [("what", v)])) a (exo a C (some d))) a) d (.xd [("what", v)]) = upd H d (.xd [("what", v)]) := by
      funext b
      by_cases h1 : b = d
      · rw [h1, upd_same, upd_same]
      · rw [upd_ne h1, upd_ne h1]
        by_cases h2 : b = a
        · rw [h2, del_same, ha]
        · rw [del_ne h2, upd_ne h2, upd_ne h1, upd_ne h2]
    rw [e]
    exact q d hd'
end
/-! ### isinstance of the caught error -/
structure ExI (K : PySem.W.Frag) (D : Addr) : Prop where
  xf : XfC K D
  ha : PySem.W.findIn K (.ref D) "__class__" = some (some (.builtin "object.__class__"))
  hn : PySem.W.specialIn K (.builtin "object.__class__") "__get__" = some (some (.builtin "getset_descriptor.__get__"))
  ht : PySem.W.takesIn K (.builtin "object.__class__") = some true
  hm : PySem.W.mroIn K D (.type "object") = some true
def rIsX (K : PySem.W.Frag) (a : Addr) (cls : Value) (d : Option Addr) : List V → Hp → VK → Prop := fun xs H Q => ∃ (c : V) (D dd : Addr) (fs : List (Str × V)) (cv : Value) (b : Bool), xs = [.ref a, c] ∧ cls = .ref D ∧ d = some dd ∧ H dd = some (.xd fs) ∧ ExI K D ∧ ClsV c cv ∧ PySem.W.kitOne K (.ref D) cv = some b ∧ Q (.bl b) H
def rIsXT (K : PySem.W.Frag) (a : Addr) (cls : Value) (d : Option Addr) : List V → Hp → VK → Prop := fun xs H Q => ∃ (tp D dd : Addr) (cs : List V) (ws : List Value) (fs : List (Str × V)) (b : Bool), xs = [.ref a, .ref tp] ∧ cls = .ref D ∧ d = some dd ∧ H dd = some (.xd fs) ∧ ExI K D ∧ H tp = some (.tup cs) ∧ Paired ClsV cs ws ∧ PySem.W.kitAny K (.ref D) ws = some b ∧ Q (.bl b) H
section
variable {X : Cx} {a : Addr} {oe : Obj} {cls : Value} {d : Option Addr} {pn : List (Addr × Obj)} {K : PySem.W.Frag}
theorem inst_of {pins : List (Addr × Obj)} {σ : L2.St} {H : Hp} {s : Shared} {D dd : Addr} {fs : List (Str × V)} (hz : Zc (.ref D) (some dd) oe) (hf : ∃ vs, oe.data = .fields vs) (I : L2.Inv (X.suite a ((a, oe) :: pn)) pins σ H s) (hx : H dd = some (.xd fs)) : ∃ od, PySem.W.InstAt s.heap a oe D (some od) := by
  obtain ⟨hget, _⟩ := I.pin (a, oe) (List.mem_append.mpr (.inl List.mem_cons_self))
  obtain ⟨vs, hv⟩ := hf
  obtain ⟨mA, ⟨o, _, _, e, _⟩, _⟩ := (show ObjOk X.prog X.w H s.heap dd (.xd fs) from I.hok dd _ hx)
  obtain ⟨oc, od, oda, osl⟩ := oe
  obtain ⟨h1, h2⟩ := hz
  dsimp only at h1 h2 hv
  subst h1 h2 hv
  exact ⟨o, hget, rfl, rfl, e⟩
theorem ExI.cl {D : Addr} (E : ExI K D) : (PySem.W.clsIn K D).isSome = true := by
  have := E.xf.hdC
  obtain ⟨cd, hc, _⟩ := PySem.W.any_some this
  rw [hc]
  rfl
theorem cr_isX (hz : Zc cls d oe) (hf : ∃ vs, oe.data = .fields vs) (hK : X.K = K := by rfl) : CallR (X.suite a ((a, oe) :: pn)) (.builtin "isinstance") (rIsX K a cls d) := by
  subst hK
  intro pins s σ H xs us Q I r h
  obtain ⟨c, D, dd, fs, cv, b, rfl, rfl, rfl, hx, E, k, e, q⟩ := h
  obtain ⟨u1, u2, rfl, r1, r2⟩ := vals2 r
  cases r1
  have e2 := k.eq r2
  subst e2
  obtain ⟨od, J⟩ := inst_of hz hf I hx
  exact PySem.W.kia_one (PySem.W.kitx_exc E.cl E.xf.ga E.xf.gg E.xf.exC E.ha E.hn E.ht E.hm) I.kIn J e (fun z => nomatch z) fun tk => ⟨.bl b, H, I.tok tk, rfl, q⟩
theorem cr_isXT (hz : Zc cls d oe) (hf : ∃ vs, oe.data = .fields vs) (hK : X.K = K := by rfl) : CallR (X.suite a ((a, oe) :: pn)) (.builtin "isinstance") (rIsXT K a cls d) := by
  subst hK
  intro pins s σ H xs us Q I r h
  obtain ⟨tp, D, dd, cs, ws, fs, b, rfl, rfl, rfl, hx, E, hT, k, e, q⟩ := h
  obtain ⟨u1, u2, rfl, r1, r2⟩ := vals2 r
  cases r1
  cases (show u2 = Value.ref tp from r2)
  obtain ⟨od, J⟩ := inst_of hz hf I hx
  obtain ⟨_, its, rv, o, h1, h2, n, h3⟩ := (show ObjOk X.prog X.w H s.heap tp (.tup cs) from I.hok tp _ hT)
  have e3 := ClsV.all k rv
  subst e3
  obtain ⟨oc, od', dt, sl⟩ := o
  simp only at h2 h3
  subst h2 h3
  exact PySem.W.kia_tup (PySem.W.kitx_exc E.cl E.xf.ga E.xf.gg E.xf.exC E.ha E.hn E.ht E.hm) I.kIn J h1 e (fun z => nomatch z) fun tk => ⟨.bl b, H, I.tok tk, rfl, q⟩
end
/-! ### defs that may raise -/
structure CalX (P : Program) (w : World) (K : PySem.W.Frag) (mg : Str → Option Value) (base : Heap) (x : Str) (k : Nat) (ps : List Str) (sp : Sp) : Prop where
  ex : ∃ (f : Addr) (fd : FuncData), mg x = some (.ref f) ∧ PySem.W.keepIn K (.ref f) = true ∧ Binds K fd ps [] ∧ FnOk P w K mg base (L2.CX P w) k f fd ps sp
section
variable {X : Cx} {k : Nat} {ps : List Str} {sp : Sp} {x : Str} {p pos : Pos} {e : Expr} {es : List Expr} {t : TA}
/-- where nothing is let out -/
theorem pass1 : Passes (L2.CX X.prog X.w) X E0 := passes_call takes0 fun _ _ _ _ h => h
theorem pe_calN (C : CalX X.prog X.w X.K X.mg X.base x k ps sp) (hr : Room k X.A) (hg : Gl X x) (ha : PA X (e :: es) t) (hdb : (x == ("__debug__" : Str)) = false := by decide)
    (he : starEach (e :: es) X.env = (false, eval e X.env) :: starEach es X.env := by rfl) (hpl : (backTo pos (starEach es X.env)).any (·.1) = false := by rfl) :
    PE X (.Call (.Name x p) (e :: es) [] pos) (tCall sp [] E0 t) := by
  obtain ⟨f, fd, hm, hk, hb, F⟩ := C.ex
  exact pe_call F hr hg hm hk hb .nil pass1 ha hdb he hpl
/-- in the body of a try -/
theorem pe_calS {W : WX} (C : CalX X.prog X.w X.K X.mg X.base x k ps sp) (tk : Takes X W) (hr : Room k X.A) (hg : Gl X x) (ha : PA X (e :: es) t) (hdb : (x == ("__debug__" : Str)) = false := by decide)
    (he : starEach (e :: es) X.env = (false, eval e X.env) :: starEach es X.env := by rfl) (hpl : (backTo pos (starEach es X.env)).any (·.1) = false := by rfl) :
    PE X (.Call (.Name x p) (e :: es) [] pos) (tCallS sp (WE W) t) := by
  obtain ⟨f, fd, hm, hk, hb, F⟩ := C.ex
  exact pe_callS F hr hg hm hk hb (fun σ => passAt tk σ) ha hdb he hpl
end
theorem rd_callS {sp : Sp} {E : L2.St → XK} {t : TA} {σ : L2.St} {H : Hp} {Q : VK} (h : t σ H fun vs H1 => sp vs H1 Q (E σ)) : tCallS sp E t σ H Q := h
theorem rd_xf {a C dd : Addr} {f : Str} {te : TE} {σ : L2.St} {H : Hp} {Q : VK} (h : te σ H fun x H1 => x = .ref a ∧ ∃ (fs : List (Str × V)) (v : V), H1 dd = some (.xd fs) ∧ fs.lookup f = some v ∧ Q v H1)
    (mono : ∀ R R' : VK, (∀ v H, R v H → R' v H) → te σ H R → te σ H R') : tXf a (.ref C) (some dd) C f te σ H Q := mono _ _ (fun x H1 q => by
  obtain ⟨e, fs, v, h1, h2, q⟩ := q
  exact ⟨e, rfl, dd, fs, v, rfl, h1, h2, q⟩) h
end Rg

/-! data with lists; what a ring may do -/
namespace Rg
open PySem PySem.Spec L2
/-! ### data whose lists all stand in S -/
mutual
inductive DL (S : Addr → Prop) (H : Hp) : V → PyData → Prop
  | non : DL S H .non .none
  | bl (b : Bool) : DL S H (.bl b) (.bool b)
  | int (i : Int) : DL S H (.int i) (.int i)
  | str (x : Str) : DL S H (.str x) (.str x)
  | tup {a : Addr} {xs : List V} {ds : List PyData} : H a = some (.tup xs) → DLs S H xs ds → DL S H (.ref a) (.tuple ds)
  | lst {a : Addr} {xs : List V} {ds : List PyData} : S a → H a = some (.lst xs) → DLs S H xs ds → DL S H (.ref a) (.list ds)
inductive DLs (S : Addr → Prop) (H : Hp) : List V → List PyData → Prop
  | nil : DLs S H [] []
  | cons {v : V} {vs : List V} {d : PyData} {ds : List PyData} : DL S H v d → DLs S H vs ds → DLs S H (v :: vs) (d :: ds)
end
mutual
theorem DL.keep {S S' : Addr → Prop} {H H' : Hp} (tk : Tk H H') (kl : ∀ a xs, S a → H a = some (.lst xs) → S' a ∧ H' a = some (.lst xs)) : ∀ {d : PyData} {v : V}, DL S H v d → DL S' H' v d
  | _, _, .non => .non
  | _, _, .bl b => .bl b
  | _, _, .int i => .int i
  | _, _, .str x => .str x
  | _, _, .tup e h => .tup (tk _ _ e) (DLs.keep tk kl h)
  | _, _, .lst s e h => .lst (kl _ _ s e).1 (kl _ _ s e).2 (DLs.keep tk kl h)
theorem DLs.keep {S S' : Addr → Prop} {H H' : Hp} (tk : Tk H H') (kl : ∀ a xs, S a → H a = some (.lst xs) → S' a ∧ H' a = some (.lst xs)) : ∀ {ds : List PyData} {vs : List V}, DLs S H vs ds → DLs S' H' vs ds
  | _, _, .nil => .nil
  | _, _, .cons h t => .cons (DL.keep tk kl h) (DLs.keep tk kl t)
end
theorem DL.same {S : Addr → Prop} {H H' : Hp} {d : PyData} {v : V} (h : DL S H v d) (s : Same H H') : DL S H' v d := h.keep (Tk.of s) fun a xs q e => ⟨q, s _ _ e⟩
theorem DLs.same {S : Addr → Prop} {H H' : Hp} {d : List PyData} {v : List V} (h : DLs S H v d) (s : Same H H') : DLs S H' v d := h.keep (Tk.of s) fun a xs q e => ⟨q, s _ _ e⟩
mutual
theorem DL.dp {S : Addr → Prop} {K : PySem.W.Frag} {H : Hp} : ∀ {d : PyData} {v : V}, DL S H v d → Dp K H v d
  | _, _, .non => .non
  | _, _, .bl b => .bl b
  | _, _, .int i => .int i
  | _, _, .str x => .str x
  | _, _, .tup e h => .tup (SqT.of e) (DLs.dp h)
  | _, _, .lst _ e h => .lst (SqL.of e) (DLs.dp h)
theorem DLs.dp {S : Addr → Prop} {K : PySem.W.Frag} {H : Hp} : ∀ {ds : List PyData} {vs : List V}, DLs S H vs ds → DpAll K H vs ds
  | _, _, .nil => .nil
  | _, _, .cons h t => .cons (DL.dp h) (DLs.dp t)
end
mutual
theorem Rp.dl {S : Addr → Prop} {H : Hp} : ∀ {d : PyData} {v : V}, Rp H v d → DL S H v d
  | _, _, .non => .non
  | _, _, .bl b => .bl b
  | _, _, .int i => .int i
  | _, _, .str x => .str x
  | _, _, .tup e h => .tup e (RpAll.dl h)
theorem RpAll.dl {S : Addr → Prop} {H : Hp} : ∀ {ds : List PyData} {vs : List V}, RpAll H vs ds → DLs S H vs ds
  | _, _, .nil => .nil
  | _, _, .cons h t => .cons (Rp.dl h) (RpAll.dl t)
end
theorem DLs.append {S : Addr → Prop} {H : Hp} : ∀ {ds es : List PyData} {vs us : List V}, DLs S H vs ds → DLs S H us es → DLs S H (vs ++ us) (ds ++ es)
  | _, _, _, _, .nil, h => h
  | _, _, _, _, .cons a t, h => .cons a (DLs.append t h)
theorem DLs.length {S : Addr → Prop} {H : Hp} : ∀ {ds : List PyData} {vs : List V}, DLs S H vs ds → vs.length = ds.length
  | _, _, .nil => rfl
  | _, _, .cons _ t => congrArg Nat.succ (DLs.length t)
theorem DLs.get2 {S : Addr → Prop} {H : Hp} : ∀ {ds : List PyData} {vs : List V} {i : Nat} {d : PyData}, DLs S H vs ds → ds[i]? = some d → ∃ v, vs[i]? = some v ∧ DL S H v d
  | _, _, _, _, .nil, e => by simp at e
  | _, _, 0, _, .cons h _, e => by
    simp at e
    subst e
    exact ⟨_, rfl, h⟩
  | _, _, i + 1, _, .cons _ t, e => by
    obtain ⟨d, h1, h2⟩ := DLs.get2 (i := i) t (by simpa using e)
    exact ⟨d, by simpa using h1, h2⟩
theorem DL.lst_inv {S : Addr → Prop} {H : Hp} {v : V} {ds : List PyData} (h : DL S H v (.list ds)) : ∃ a xs, v = .ref a ∧ S a ∧ H a = some (.lst xs) ∧ DLs S H xs ds := by
  cases h with
  | lst s a b => exact ⟨_, _, rfl, s, a, b⟩
/-- made between two heaps -/
def New (H0 H1 : Hp) : Addr → Prop := fun a => H0 a = none ∧ H1 a ≠ none
theorem DL.new {H0 H : Hp} {d : PyData} {v : V} (h : DL (fun a => H0 a = none) H v d) : DL (New H0 H) H v d := h.keep (Tk.refl _) fun a xs q e => ⟨⟨q, by rw [e]; exact fun z => nomatch z⟩, e⟩
/-- .. and one place written since, that was there ahead or came behind -/
theorem DL.put {H0 H1 H : Hp} {d : PyData} {v : V} {p : Addr} {o : HO} (h : DL (New H0 H1) H v d) (hp : ∀ xs, H p ≠ some (.tup xs)) (hn : ¬ New H0 H1 p) : DL (New H0 H1) (upd H p o) v d :=
  h.keep (fun b xs e => by rw [upd_ne (fun z => hp xs (by rw [← z]; exact e))]; exact e) fun a xs q e => ⟨q, by rw [upd_ne (fun z => hn (by rw [← z]; exact q))]; exact e⟩
/-! ### comprehensions of data -/
def CompD {β : Type} (D : Addr) (H1 : Hp) (xs : List β) (f : β → PyData) (i : Nat) (H' : Hp) : Prop := ∃ vs, H' D = some (.lst vs) ∧ DLs (fun a => H1 a = none ∧ a ≠ D) H' vs ((xs.take i).map f) ∧ Same H1 H'
theorem CompD.start {β : Type} {D : Addr} {H1 : Hp} {xs : List β} {f : β → PyData} (hD : H1 D = none) : CompD D H1 xs f 0 (upd H1 D (.lst [])) := ⟨[], upd_same, .nil, same_upd hD⟩
theorem CompD.step {β : Type} {D : Addr} {H1 H2 H4 : Hp} {xs : List β} {f : β → PyData} {i : Nat} {b : β} {y : V} (h : CompD D H1 xs f i H2) (hD : H1 D = none) (hi : i ≤ 1000) (hb : xs[i]? = some b) (k : Same H2 H4) (r : DL (fun a => H2 a = none) H4 y (f b)) :
    ∃ acc, H4 D = some (.lst acc) ∧ acc.length < sizeLine ∧ CompD D H1 xs f (i + 1) (upd H4 D (.lst (acc ++ [y]))) := by
  obtain ⟨vs, h1, h2, s1⟩ := h
  have e4 := k _ _ h1
  have kl : ∀ (S : Addr → Prop), (∀ a, S a → H1 a = none ∧ a ≠ D) → ∀ a xs, S a → H4 a = some (.lst xs) → (H1 a = none ∧ a ≠ D) ∧ upd H4 D (.lst (vs ++ [y])) a = some (.lst xs) := fun S hS a xs q e => ⟨hS a q, by rw [upd_ne (hS a q).2]; exact e⟩
  refine ⟨vs, e4, ?_, vs ++ [y], upd_same, ?_, fun c o q => ?_⟩
  · rw [h2.length, List.length_map, List.length_take]
    exact small1000 (by omega)
  · rw [take_snoc hb, List.map_append]
    refine ((h2.same k).keep (Tk.lst e4) (kl _ fun a q => q)).append (.cons (r.keep (Tk.lst e4) (kl _ fun a q => ⟨s1.free q, fun z => ?_⟩)) .nil)
    rw [z, h1] at q
    cases q
  · rw [upd_ne (ne_of_none q hD)]
    exact k _ _ (s1 _ _ q)
theorem CompD.end {β : Type} {D : Addr} {H1 H2 : Hp} {xs : List β} {f : β → PyData} {n : Nat} (h : CompD D H1 xs f n H2) (hD : H1 D = none) (hn : n = xs.length) : DL (fun a => H1 a = none) H2 (.ref D) (.list (xs.map f)) := by
  subst hn
  obtain ⟨vs, h1, h2, _⟩ := h
  rw [List.take_length] at h2
  exact .lst hD h1 (h2.keep (Tk.refl _) fun a xs q e => ⟨q.1, e⟩)
/-! ### what a ring may do -/
def has (c : Nat) (x : Str) : Bool := decide (c ∈ x.cps.toList)
def mRead (s : Sg) (e : Int) : Bool := has 114 s.ri && decide (e ≤ s.r2)
def mWrite (s : Sg) (e : Int) : Bool := has 119 s.ri && decide (e ≤ s.r1)
def mRun (s : Sg) (e : Int) : Bool := has 120 s.ri && (decide (s.r1 ≤ e) && decide (e ≤ s.r2))
def mCall (s : Sg) (e : Int) : Bool := has 120 s.ri && (decide (s.r2 < e) && decide (e ≤ s.r3))
def alD (r : Int) (s : Sg) : PyData := .tuple [.bool (mRead s r), .bool (mWrite s r), .bool (mRun s r), .bool (mCall s r)]
def tabD (xs : List Sg) : PyData := .list ((List.range 8).map fun r => .list (xs.map (alD (r : Nat))))
def spMay (fn : Sg → Int → Bool) : Sp := fun vs H Q _ => ∃ (v : V) (x : Sg) (e : Int), vs = [v, .int e] ∧ Rp H v x.d ∧ ∀ H', Same H H' → Q (.bl (fn x e)) H'
theorem rd_cut2 {K : PySem.W.Frag} {H : Hp} {Q : VK} {p : Addr} {x y z : V} {xs : List V} (h : H p = some (.tup (x :: y :: z :: xs))) (q : ∀ p', H p' = none → Q (.ref p') (upd H p' (.tup [x, y]))) : rSlT K (.ref p) none (some 2) H Q := by
  refine ⟨p, x :: y :: z :: xs, rfl, SqT.of h, ?_, fun p' hp' => ?_⟩
  · rintro ⟨_, h1⟩
    simp [HT.sIx] at h1
  · have e : cutV (x :: y :: z :: xs) none (some 2) = [x, y] := by
      unfold cutV
      have : HT.sIx (x :: y :: z :: xs).length (x :: y :: z :: xs).length (some 2) = 2 := by simp [HT.sIx]
      rw [this]
      simp [HT.sIx]
    rw [e]
    exact q p' hp'
def spAllowed (C NR : Addr) : Sp := fun vs H Q E => ∃ (x : Addr) (us : List V) (xs : List Sg) (b r : Int), vs = [.ref x, .int r] ∧ MAt C H x us b ∧ RpAll H us (xs.map Sg.d) ∧ xs.length ≤ 900 ∧ r.natAbs.log2 < 1920 ∧
  (below r 8 = true → ∀ (L : Addr) (H' : Hp), H L = none → DL (fun a => H a = none) H' (.ref L) (.list (xs.map (alD r))) → Same H H' → Q (.ref L) H') ∧
  (below r 8 = false → ∀ (d : Addr) (H' : Hp), H d = none → H' d = some (.xd [("what", .int r)]) → Same H H' → E (.ref NR) (some d) H')
def spTable (C : Addr) : Sp := fun vs H Q _ => ∃ (x : Addr) (us : List V) (xs : List Sg) (b : Int), vs = [.ref x] ∧ MAt C H x us b ∧ RpAll H us (xs.map Sg.d) ∧ xs.length ≤ 900 ∧ ∀ (L : Addr) (H' : Hp), H L = none → DL (fun a => H a = none) H' (.ref L) (tabD xs) → Same H H' → Q (.ref L) H'
/-- ways that join again -/
theorem rd_join {T : VK → Prop} {Q : VK} (post : VK) (h1 : ∀ R : VK, (∀ v H', post v H' → R v H') → T R) (h2 : ∀ v H', post v H' → Q v H') : T Q := h1 Q h2
/-- .. a truth, the heap as it was -/
theorem rd_joinB {T : VK → Prop} {Q : VK} {H : Hp} (k : Bool) (h1 : ∀ R : VK, R (.bl k) H → T R) (h2 : Q (.bl k) H) : T Q := h1 Q h2
/-! ### calls by names alone -/
theorem kbn_of {K : PySem.W.Frag} {x qual : Str} {st : Stmt} {f : Addr} {fd : FuncData} {ps : List Str} (F : Fun K x qual st f fd) (n : Nat) (ks : List Str) (g : {α : Type} → List α → List α → List α) (hrel : ∀ {vs zs : List V} {us ws : List Value}, Vals vs us → Vals zs ws → Vals (g vs zs) (g us ws))
    (h : ∀ (kV doc pm : Value) (an : Option Addr) (cdv ct : Value) (us ws : List Value), us.length = n → ws.length = ks.length → bindArgs (PySem.W.fnOf x qual (defArgs st) (defBody st) (defScope st) .none kV doc pm an cdv ct) ⟨us, ks.zip ws⟩ = pure (ps.zip (g us ws))) : KBn K fd ps n ks (fun us ws => g us ws) (fun vs zs => g vs zs) := by
  obtain ⟨oc, od, kV, doc, pm, an, cdv, ct, osl, rfl, lk, hcd⟩ := F.ex
  exact ⟨fun s us ws _ l1 l2 => .of_eq (h kV doc pm an cdv ct us ws l1 l2), fun r1 r2 => hrel r1 r2⟩
theorem Vals_rev : ∀ {xs : List V} {us : List Value}, Vals xs us → Vals xs.reverse us.reverse
  | _, _, .nil => .nil
  | _, _, .cons r t => by
    rw [List.reverse_cons, List.reverse_cons]
    exact (Vals_rev t).append (.cons r .nil)
structure CalK (P : Program) (w : World) (K : PySem.W.Frag) (mg : Str → Option Value) (base : Heap) (CX : CXT) (x : Str) (k : Nat) (ps ks : List Str) (gV : List V → List V → List V) (sp : Sp) : Prop where
  ex : ∃ (f : Addr) (fd : FuncData) (g : List Value → List Value → List Value), mg x = some (.ref f) ∧ PySem.W.keepIn K (.ref f) = true ∧ KBn K fd ps 0 ks g gV ∧ FnOk P w K mg base CX k f fd ps sp
section
variable {X : Cx} {CX : CXT} {k : Nat} {f : Addr} {fd : FuncData} {ps ks : List Str} {sp : Sp} {E : XK} {x : Str} {p pos : Pos} {kws : List Keyword} {tk : TA} {g : List Value → List Value → List Value} {gV : List V → List V → List V}
theorem pe_callN0 (F : FnOk X.prog X.w X.K X.mg X.base CX k f fd ps sp) (hr : Room k X.A) (hg : Gl X x) (hm : X.mg x = some (.ref f)) (hk : PySem.W.keepIn X.K (.ref f) = true) (hb : KBn X.K fd ps 0 ks g gV) (hx : Passes CX X E) (hkw : PK X kws tk)
    (hall : (backToKw pos (keywordEach kws X.env)).all (·.1.isSome) = true := by rfl) (hks : (backToKw pos (keywordEach kws X.env)).filterMap (·.1) = ks := by rfl) (hdb : (x == ("__debug__" : Str)) = false := by decide)
    (hpl : ((backTo pos (starEach [] X.env)).any (·.1) || (backToKw pos (keywordEach kws X.env)).any (·.1.isNone)) = false := by rfl) :
    PE X (.Call (.Name x p) [] kws pos) (tCallN 0 ks.length sp gV E tNil tk) := by
  refine ⟨fun pins s σ H Q I h => ?_⟩
  refine wpAny_Call_Name_kw (ld_glob I hg hm ?_ hdb)
  refine PySem.W.callWith_KW0 (h₀ := X.base) I.ok.mod.kin hk hall ?_ hpl
  refine thn (hkw.run pos pins s σ H _ I h) fun ws s2 ⟨zs, H2, I2, rz, l1, l2, q2⟩ => ⟨I2.kIn, ?_⟩
  rw [hks]
  exact run_fnN (us := []) (vs := []) F hr hb hx I2 .nil rz l1 l2 q2
theorem pe_calK0 (C : CalK X.prog X.w X.K X.mg X.base CX x k ps ks gV sp) (hr : Room k X.A) (hg : Gl X x) (hx : Passes CX X E) (hkw : PK X kws tk)
    (hall : (backToKw pos (keywordEach kws X.env)).all (·.1.isSome) = true := by rfl) (hks : (backToKw pos (keywordEach kws X.env)).filterMap (·.1) = ks := by rfl) (hdb : (x == ("__debug__" : Str)) = false := by decide)
    (hpl : ((backTo pos (starEach [] X.env)).any (·.1) || (backToKw pos (keywordEach kws X.env)).any (·.1.isNone)) = false := by rfl) :
    PE X (.Call (.Name x p) [] kws pos) (tCallN 0 ks.length sp gV E tNil tk) := by
  obtain ⟨f, fd, g, hm, hk, hb, F⟩ := C.ex
  exact pe_callN0 F hr hg hm hk hb hx hkw hall hks hdb hpl
end
theorem rd_callN {n m : Nat} {sp : Sp} {gV : List V → List V → List V} {E : XK} {t tk : TA} {σ : L2.St} {H : Hp} {Q : VK} (h : t σ H fun vs H1 => tk σ H1 fun zs H2 => vs.length = n ∧ zs.length = m ∧ sp (gV vs zs) H2 Q E) : tCallN n m sp gV E t tk σ H Q := h
section
variable {X : Cx} {K : PySem.W.Frag} {tg : Expr}
theorem pi_listK {l : Expr} {tl : TE} (hl : PE X l tl) (h : X.K = K := by rfl) : PI X tg l (iList K tl) := by subst h; exact pi_list hl
theorem pi_tupK {l : Expr} {tl : TE} (hl : PE X l tl) (h : X.K = K := by rfl) : PI X tg l (iTup K tl) := by subst h; exact pi_tup hl
end
theorem DL.cons_inv {S : Addr → Prop} {H : Hp} {v : V} {d : PyData} {ds : List PyData} (h : DL S H v (.list (d :: ds))) : ∃ a x xs, v = .ref a ∧ S a ∧ H a = some (.lst (x :: xs)) ∧ DL S H x d ∧ DLs S H xs ds := by
  cases h with
  | lst s a b =>
    cases b with
    | cons p q => exact ⟨_, _, _, rfl, s, a, p, q⟩
theorem DL.tup_inv {S : Addr → Prop} {H : Hp} {v : V} {ds : List PyData} (h : DL S H v (.tuple ds)) : ∃ a xs, v = .ref a ∧ H a = some (.tup xs) := by
  cases h with
  | tup e _ => exact ⟨_, _, rfl, e⟩
theorem al_ok (r : Int) (xs : List Sg) (hl : xs.length ≤ 1000) : okN 3 (.list (xs.map (alD r))) := by
  refine ⟨by rw [List.length_map]; omega, fun e he => ?_⟩
  obtain ⟨x, _, rfl⟩ := List.mem_map.mp he
  refine ⟨by show 4 ≤ 1000000; decide, fun e he => ?_⟩
  simp only [List.mem_cons, List.mem_nil_iff, or_false] at he
  rcases he with rfl | rfl | rfl | rfl <;> trivial
theorem okN_succ : ∀ {j : Nat} {d : PyData}, okN j d → okN (j + 1) d
  | 0, _, h => h.elim
  | j + 1, .none, _ => trivial
  | j + 1, .bool _, _ => trivial
  | j + 1, .int _, _ => trivial
  | j + 1, .str _, _ => trivial
  | j + 1, .dict _, h => h.elim
  | j + 1, .list ds, h => ⟨h.1, fun e he => okN_succ (h.2 e he)⟩
  | j + 1, .tuple ds, h => ⟨h.1, fun e he => okN_succ (h.2 e he)⟩
theorem tab_ok (xs : List Sg) (hl : xs.length ≤ 1000) : okN 4 (tabD xs) := by
  refine ⟨by rw [List.length_map, List.length_range]; decide, fun e he => ?_⟩
  obtain ⟨x, _, rfl⟩ := List.mem_map.mp he
  exact al_ok _ xs hl
/-- what holds of a machine, of the table that is due and of the tray, through the law -/
structure I4 (C t g x Ld : Addr) (us : List V) (xs : List Sg) (b : Int) (n : Nat) (H7 H8 H : Hp) : Prop where
  m : MAt C H x us b
  rp : RpAll H us (xs.map Sg.d)
  due : DL (New H7 H8) H (.ref Ld) (tabD xs)
  T : Tray H t g n
  dom : ∀ c, H c = none → H8 c = none
  ht : H7 t ≠ none ∧ H8 t ≠ none
  hg : H7 g ≠ none ∧ H8 g ≠ none
section
variable {C t g x Ld : Addr} {us : List V} {xs : List Sg} {b : Int} {n m : Nat} {H7 H8 H H' : Hp}
theorem I4.same (I : I4 C t g x Ld us xs b n H7 H8 H) (s : Same H H') : I4 C t g x Ld us xs b n H7 H8 H' :=
  ⟨I.m.same s, I.rp.keep (Tk.of s), I.due.same s, I.T.same s, fun c h => I.dom c (s.free h), I.ht, I.hg⟩
theorem I4.put {p : Addr} {vs ws : List V} (I : I4 C t g x Ld us xs b n H7 H8 H) (hp : H p = some (.lst vs)) (h8 : H8 p = none) : I4 C t g x Ld us xs b n H7 H8 (upd H p (.lst ws)) := by
  have tk : Tk H (upd H p (.lst ws)) := Tk.lst hp
  have n1 : p ≠ t := fun z => I.ht.2 (by rw [← z]; exact h8)
  have n2 : p ≠ g := fun z => I.hg.2 (by rw [← z]; exact h8)
  refine ⟨I.m.keep (fun o e => ?_) tk, I.rp.keep tk, I.due.put (fun xs e => by rw [hp] at e; cases e) fun z => z.2 h8, I.T.put n1 n2, fun c h => ?_, I.ht, I.hg⟩
  · obtain ⟨dx, q, e1, _⟩ := I.m
    rw [upd_ne (ne_of e1 hp (fun z => nomatch z))]
    exact e
  · by_cases hc : c = p
    · rw [hc]
      exact h8
    · rw [upd_ne hc] at h
      exact I.dom c h
theorem I4.kp (I : I4 C t g x Ld us xs b n H7 H8 H) (k : Kp t g H H') (T : Tray H' t g m) : I4 C t g x Ld us xs b m H7 H8 H' := by
  have tk := k.tk I.T
  refine ⟨I.m.keep (fun o e => ?_) tk, I.rp.keep tk, I.due.keep tk fun a ys q e => ⟨q, ?_⟩, T, fun c h => ?_, I.ht, I.hg⟩
  · obtain ⟨dx, q, e1, _⟩ := I.m
    obtain ⟨_, et⟩ := I.T.ht
    obtain ⟨_, eg⟩ := I.T.hg
    exact k _ _ e (ne_of e1 et (fun z => nomatch z)) (ne_of e1 eg (fun z => nomatch z))
  · exact k _ _ e (fun z => I.ht.1 (by rw [← z]; exact q.1)) (fun z => I.hg.1 (by rw [← z]; exact q.1))
  · cases e : H c with
    | none => exact I.dom c e
    | some o =>
      by_cases h1 : c = t
      · obtain ⟨_, et⟩ := T.ht
        rw [h1, et] at h
        cases h
      by_cases h2 : c = g
      · obtain ⟨_, et⟩ := T.hg
        rw [h2, et] at h
        cases h
      rw [k _ _ e h1 h2] at h
      cases h
end
def spRefused (C : Addr) : Sp := fun vs H Q _ => ∃ (x : Addr) (us : List V) (xs : List Sg) (b r : Int), vs = [.ref x, .int r] ∧ MAt C H x us b ∧ RpAll H us (xs.map Sg.d) ∧ xs.length ≤ 900 ∧ r.natAbs.log2 < 1920 ∧ below r 8 = false ∧
  ∀ (L : Addr) (H' : Hp), H L = none → DL (fun a => H a = none) H' (.ref L) (.list [.int r, .bool true, .bool true, .bool false]) → Same H H' → Q (.ref L) H'
theorem rd_U {f : Int → V} {a : Int} {H : Hp} {Q : VK} (h : Q (f a) H) : rU f (.int a) H Q := ⟨a, rfl, h⟩
end Rg

/-! machines that may be refused -/
namespace Rg
open PySem PySem.Spec L2
/-! ### C(e, .., k = v, ..) in the body of a try -/
def tMakeKS (C : Addr) (n m : Nat) (sp : Sp) (gV : List V → List V → List V) (E : L2.St → XK) (t tk : TA) : TE := fun σ H Q => t σ H fun vs H1 => tk σ H1 fun zs H2 => vs.length = n ∧ zs.length = m ∧ ∀ x dx, H2 x = none → H2 dx = none → dx ≠ x →
  sp (gV (.ref x :: vs) zs) (upd (upd H2 dx (.own x)) x (.ins C dx [])) (fun v H3 => v = .non ∧ Q (.ref x) H3) (E σ)
section
variable {X : Cx} {k n : Nat} {f C : Addr} {fd : FuncData} {ps ks : List Str} {sp : Sp} {W : WX} {x : Str} {p pos : Pos} {e : Expr} {es : List Expr} {kws : List Keyword} {t tkw : TA} {g : List Value → List Value → List Value} {gV : List V → List V → List V}
theorem pe_makeKS (M : Mk X.K C f) (F : FnOk X.prog X.w X.K X.mg X.base (L2.CX X.prog X.w) k f fd ps sp) (tk : Takes X W) (hr : Room (k + 1) X.A) (hg : Gl X x) (hm : X.mg x = some (.ref C)) (hb : KBn X.K fd ps (n + 1) ks g gV) (ha : PA X (e :: es) t) (hkw : PK X kws tkw)
    (hall : (backToKw pos (keywordEach kws X.env)).all (·.1.isSome) = true := by rfl) (hks : (backToKw pos (keywordEach kws X.env)).filterMap (·.1) = ks := by rfl) (hdb : (x == ("__debug__" : Str)) = false := by decide)
    (he : starEach (e :: es) X.env = (false, eval e X.env) :: starEach es X.env := by rfl) (hpl : ((backTo pos (starEach (e :: es) X.env)).any (·.1) || (backToKw pos (keywordEach kws X.env)).any (·.1.isNone)) = false := by rfl) :
    PE X (.Call (.Name x p) (e :: es) kws pos) (tMakeKS C n ks.length sp gV (WE W) t tkw) := by
  constructor
  intro pins s σ H Q I h
  refine wpAny_Call_Name_kw (ld_glob I hg hm ?_ hdb)
  refine PySem.W.callWith_KW (h₀ := X.base) I.ok.mod.kin M.kp hall (thn (ha.run pos pins s σ H _ I h) ?_) hpl he
  rintro us sa ⟨vs, Ha, Ia, rv, qa⟩
  refine thn (hkw.run pos pins sa σ Ha _ Ia qa) ?_
  rintro ws sb ⟨zs, Hb, Ib, rz, l1, l2, qb⟩
  refine ⟨Ib.kIn, ?_⟩
  rw [hks]
  have ho := qb (sb.heap.objs.size + 1) sb.heap.objs.size (Ib.hok.fresh (Nat.le_succ _)) (Ib.hok.fresh (Nat.le_refl _)) (Nat.ne_of_lt (Nat.lt_succ_self _))
  have Im := Inv.made (C := C) Ib
  have rall := hb.rel (Paired.cons (show RelV (V.ref (sb.heap.objs.size + 1)) (Value.ref (sb.heap.objs.size + 1)) from rfl) rv) rz
  have ln : (Value.ref (sb.heap.objs.size + 1) :: us).length = n + 1 := by rw [List.length_cons, ← rv.length, l1]
  have run := F.run _ X.stack _ _ ⟨Value.ref (sb.heap.objs.size + 1) :: us, ks.zip ws⟩ (g (Value.ref (sb.heap.objs.size + 1) :: us) ws) _ _ (WE W σ) (hr.make C us (ks.zip ws)) (Im.env0.make C us (ks.zip ws)) (hb.to _ (Value.ref (sb.heap.objs.size + 1) :: us) ws Im.kIn ln (rz.length.symm.trans l2)) rall ho
  refine wpAny_call (make_map (f := f) Ib.kIn M.makes M.init (beq_iff_eq.mp M.fn) (codeAny_mono run ?_))
  intro r s' hq
  match r, hq with
  | .error er, hq => exact passAt tk σ pins _ _ er s' Im hq
  | .ok (.ret u), hq =>
    obtain ⟨v, H', I3, rv', ev, q3⟩ := Im.after hq
    subst ev
    exact ⟨rv', ⟨V.ref (sb.heap.objs.size + 1), H', I3, rfl, q3⟩⟩
  | .ok .next, hq => exact False.elim hq
  | .ok .brk, hq => exact False.elim hq
  | .ok .cont, hq => exact False.elim hq
end
theorem rd_makeKS {C : Addr} {n m : Nat} {sp : Sp} {gV : List V → List V → List V} {E : L2.St → XK} {t tk : TA} {σ : L2.St} {H : Hp} {Q : VK} (h : t σ H fun vs H1 => tk σ H1 fun zs H2 => vs.length = n ∧ zs.length = m ∧ ∀ x dx, H2 x = none → H2 dx = none → dx ≠ x →
  sp (gV (.ref x :: vs) zs) (upd (upd H2 dx (.own x)) x (.ins C dx [])) (fun v H3 => v = .non ∧ Q (.ref x) H3) (E σ)) : tMakeKS C n m sp gV E t tk σ H Q := h
/-! ### what is refused -/
def SgSmall (x : Sg) : Prop := SgForm x ∧ x.ws.length ≤ 900 ∧ x.rs.length ≤ 900
/-- what NoMachine is made with, if it is raised -/
inductive IW (xs : List Sg) (b : Int) : Option V → Prop
  | none (h : xs.length < 1 ∨ 8 < xs.length ∨ b < 2) : IW xs b (some .non)
  | num (i : Nat) (hl : 1 ≤ xs.length ∧ xs.length ≤ 8 ∧ 2 ≤ b) (y : Sg) (hy : xs[i]? = some y) (hf : sgFits y b xs.length = false) (ha : ∀ j z, j < i → xs[j]? = some z → sgFits z b xs.length = true) : IW xs b (some (.int i))
  | ok (hl : 1 ≤ xs.length ∧ xs.length ≤ 8 ∧ 2 ≤ b) (ha : ∀ z ∈ xs, sgFits z b xs.length = true) : IW xs b Option.none
def spInitX (C NM : Addr) : Sp := fun vs H Q E => ∃ (x dx L : Addr) (us : List V) (xs : List Sg) (b : Int), vs = [.ref x, .ref L, .int b] ∧ H x = some (.ins C dx []) ∧ H L = some (.lst us) ∧ RpAll H us (xs.map Sg.d) ∧ xs.length ≤ 900 ∧ (∀ y ∈ xs, SgSmall y) ∧
  (IW xs b Option.none → ∀ H', MAt C H' x us b → (∀ c o, H c = some o → c ≠ x → H' c = some o) → Q .non H') ∧
  (∀ v, IW xs b (some v) → ∀ (d : Addr) (H' : Hp), H d = Option.none → H' d = some (.xd [("what", v)]) → Same H H' → E (.ref NM) (some d) H')
end Rg
namespace Rg
open PySem PySem.Spec L2
/-! ### tuples cut and joined -/
theorem RpAll.take {H : Hp} : ∀ {ds : List PyData} {vs : List V} (n : Nat), RpAll H vs ds → RpAll H (vs.take n) (ds.take n)
  | _, _, 0, _ => .nil
  | _, _, _ + 1, .nil => .nil
  | _, _, n + 1, .cons h t => .cons h (RpAll.take n t)
theorem RpAll.set {H : Hp} {v : V} {d : PyData} (h : Rp H v d) : ∀ {ds : List PyData} {vs : List V} (n : Nat), RpAll H vs ds → RpAll H (vs.set n v) (ds.set n d)
  | _, _, _, .nil => .nil
  | _, _, 0, .cons _ t => .cons h t
  | _, _, n + 1, .cons a t => .cons a (RpAll.set h n t)
theorem RpAll.rep {H : Hp} {vs : List V} {ds : List PyData} (h : RpAll H vs ds) : ∀ n : Nat, RpAll H (List.replicate n vs).flatten (List.replicate n ds).flatten
  | 0 => .nil
  | n + 1 => by
    rw [List.replicate_succ, List.replicate_succ, List.flatten_cons, List.flatten_cons]
    exact h.append (RpAll.rep h n)
theorem cut_hi (xs : List V) (n : Nat) : cutV xs none (some (n : Int)) = xs.take n := by
  unfold cutV
  rw [HT.sIx_nat, HT.sIx_none, List.drop_zero, Nat.sub_zero, ← List.take_take, List.take_length]
section
variable {K : PySem.W.Frag} {H : Hp} {Q : VK}
theorem rd_slA {p : Addr} {xs : List V} {lo hi : Option Int} (h : H p = some (.tup xs)) (q : ∀ (p' : Addr) (H' : Hp), Same H H' → H' p' = some (.tup (cutV xs lo hi)) → Q (.ref p') H') : rSlA K (.ref p) lo hi H Q := by
  refine ⟨p, xs, rfl, SqT.of h, fun hw => ?_, fun _ p' hp' => q p' _ (same_upd hp') upd_same⟩
  refine q p H (Same.refl _) ?_
  have e : cutV xs lo hi = xs := by
    unfold cutV
    rw [hw.1, hw.2]
    simp
  rw [e]
  exact h
end
theorem rd_catA {K : PySem.W.Frag} {H : Hp} {Q : VK} {p r : Addr} {xs ys : List V} (h1 : H p = some (.tup xs)) (h2 : H r = some (.tup ys)) (hl : xs.length + ys.length ≤ 1000) (q : ∀ (p' : Addr) (H' : Hp), Same H H' → H' p' = some (.tup (xs ++ ys)) → Q (.ref p') H') : rCatA K (.ref p) (.ref r) H Q := by
  refine ⟨p, r, xs, ys, rfl, rfl, SqT.of h1, SqT.of h2, Nat.le_of_lt (small1000 hl), fun e => ?_, fun _ e => ?_, fun _ _ p' hp' => q p' _ (same_upd hp') upd_same⟩
  · exact q r H (Same.refl _) (by rw [e]; exact h2)
  · exact q p H (Same.refl _) (by rw [e, List.append_nil]; exact h1)
theorem sg_bad {x : Sg} {b m : Int} (h : brFits x.r1 x.r2 x.r3 = false ∨ below x.ga (x.rs.length + 1) = false ∨ 16 < x.ws.length ∨ (∃ y ∈ x.ws, wdFits y b m = false) ∨ ∃ y ∈ x.rs, rowFits y m = false) : sgFits x b m = false := by
  cases e : sgFits x b m with
  | false => rfl
  | true =>
    obtain ⟨h1, _, h3, h4, _, h6, h7⟩ := sg_parts e
    rcases h with h | h | h | ⟨y, hy, h⟩ | ⟨y, hy, h⟩
    · rw [h1] at h; cases h
    · rw [h3] at h; cases h
    · omega
    · rw [h6 y hy] at h; cases h
    · rw [h7 y hy] at h; cases h
def wl : Option V → List V
  | none => []
  | some v => [v]
def spWhat (C NM : Addr) : Sp := fun vs H Q _ => ∃ (L : Addr) (us : List V) (xs : List Sg) (b : Int), vs = [.ref L, .int b] ∧ H L = some (.lst us) ∧ RpAll H us (xs.map Sg.d) ∧ xs.length ≤ 900 ∧ (∀ y ∈ xs, SgSmall y) ∧
  ∀ o, IW xs b o → ∀ (Lr : Addr) (H' : Hp), H Lr = none → Same H H' → H' Lr = some (.lst (wl o)) → Q (.ref Lr) H'
/-- which segments are faulty -/
def FL (xs : List Sg) (b : Int) (N : Nat) (ds : List Nat) : Prop := ∀ j z, xs[j]? = some z → (sgFits z b N = false ↔ j ∈ ds)
end Rg
namespace Rg
open PySem PySem.Spec L2
theorem IW.un {xs : List Sg} {b : Int} {o : Option V} (h : IW xs b o) (hb : xs.length < 1 ∨ 8 < xs.length ∨ b < 2) : o = some .non := by
  cases h with
  | none _ => rfl
  | num i hl => omega
  | ok hl => omega
theorem IW.ok' {xs : List Sg} {b : Int} {o : Option V} (h : IW xs b o) (hl : 1 ≤ xs.length ∧ xs.length ≤ 8 ∧ 2 ≤ b) (hf : FL xs b xs.length []) : o = Option.none := by
  cases h with
  | none h => omega
  | num i _ y hy hb => exact absurd ((hf i y hy).mp hb) (by simp)
  | ok _ => rfl
theorem IW.first {xs : List Sg} {b : Int} {o : Option V} {j : Nat} {rest : List Nat} (h : IW xs b o) (hl : 1 ≤ xs.length ∧ xs.length ≤ 8 ∧ 2 ≤ b) (hf : FL xs b xs.length (j :: rest)) (hs : (j :: rest).Pairwise (· < ·)) (hj : j < xs.length) : o = some (.int (j : Nat)) := by
  have bad : sgFits xs[j] b xs.length = false := (hf j _ (List.getElem?_eq_getElem hj)).mpr (List.mem_cons_self ..)
  cases h with
  | none h => omega
  | num i _ y hy hb ha =>
    rcases List.mem_cons.mp ((hf i y hy).mp hb) with e | e
    · rw [e]
    · have hlt : j < i := (List.pairwise_cons.mp hs).1 i e
      have := ha j _ hlt (List.getElem?_eq_getElem hj)
      rw [this] at bad
      cases bad
  | ok _ ha =>
    rw [ha _ (List.getElem_mem hj)] at bad
    cases bad
theorem FL.bad {xs : List Sg} {b : Int} {ds : List Nat} {i : Nat} {x : Sg} (h : FL xs b xs.length ds) (hx : sgFits x b xs.length = false) : FL (xs.set i x) b (xs.set i x).length (ds ++ [i]) := fun j z hz => by
  rw [List.length_set]
  by_cases e : j = i
  · subst e
    by_cases hl : j < xs.length
    · rw [List.getElem?_set_self hl] at hz
      cases hz
      exact ⟨fun _ => by simp, fun _ => hx⟩
    · rw [List.getElem?_eq_none (by simpa using hl)] at hz
      cases hz
  · rw [List.getElem?_set_ne (Ne.symm e)] at hz
    rw [h j z hz]
    simp [e]
theorem FL.mend {xs : List Sg} {b : Int} {rest : List Nat} {i : Nat} {x : Sg} (h : FL xs b xs.length (i :: rest)) (hn : i ∉ rest) (hx : sgFits x b xs.length = true) : FL (xs.set i x) b (xs.set i x).length rest := fun j z hz => by
  rw [List.length_set]
  by_cases e : j = i
  · subst e
    by_cases hl : j < xs.length
    · rw [List.getElem?_set_self hl] at hz
      cases hz
      rw [hx]
      exact ⟨(fun q => nomatch q), fun q => absurd q hn⟩
    · rw [List.getElem?_eq_none (by simpa using hl)] at hz
      cases hz
  · rw [List.getElem?_set_ne (Ne.symm e)] at hz
    rw [h j z hz]
    simp [e]
/-- the segments, which of them are faulty, what is due, the tray -/
structure I7 (t g L Dl : Addr) (us : List V) (xs : List Sg) (b : Int) (al ds : List Nat) (n : Nat) (H : Hp) : Prop where
  hL : H L = some (.lst us)
  rp : RpAll H us (xs.map Sg.d)
  sm : ∀ y ∈ xs, SgSmall y
  fl : FL xs b xs.length ds
  hD : H Dl = some (.lst (al.map fun j => V.int (j : Nat)))
  T : Tray H t g n
  n1 : L ≠ t
  n2 : L ≠ g
  n3 : Dl ≠ t
  n4 : Dl ≠ g
  n5 : L ≠ Dl
section
variable {t g L Dl : Addr} {us : List V} {xs : List Sg} {b : Int} {al ds : List Nat} {n m : Nat} {H H' : Hp}
theorem I7.same (I : I7 t g L Dl us xs b al ds n H) (s : Same H H') : I7 t g L Dl us xs b al ds n H' :=
  ⟨s _ _ I.hL, I.rp.keep (Tk.of s), I.sm, I.fl, s _ _ I.hD, I.T.same s, I.n1, I.n2, I.n3, I.n4, I.n5⟩
theorem I7.kp (I : I7 t g L Dl us xs b al ds n H) (k : Kp t g H H') (T : Tray H' t g m) : I7 t g L Dl us xs b al ds m H' :=
  ⟨k _ _ I.hL I.n1 I.n2, I.rp.keep (k.tk I.T), I.sm, I.fl, k _ _ I.hD I.n3 I.n4, T, I.n1, I.n2, I.n3, I.n4, I.n5⟩
theorem I7.len (I : I7 t g L Dl us xs b al ds n H) : us.length = xs.length := by rw [I.rp.length, List.length_map]
theorem I7.set {v : V} {x : Sg} {i : Nat} {ds' : List Nat} (I : I7 t g L Dl us xs b al ds n H) (r : Rp H v x.d) (hx : SgSmall x) (hf : FL (xs.set i x) b (xs.set i x).length ds') : I7 t g L Dl (us.set i v) (xs.set i x) b al ds' n (upd H L (.lst (us.set i v))) := by
  have tk : Tk H (upd H L (.lst (us.set i v))) := Tk.lst I.hL
  refine ⟨upd_same, ?_, fun y hy => ?_, hf, by rw [upd_ne (Ne.symm I.n5)]; exact I.hD, I.T.put I.n1 I.n2, I.n1, I.n2, I.n3, I.n4, I.n5⟩
  · rw [List.map_set]
    exact RpAll.set (r.keep tk) i (I.rp.keep tk)
  · rcases List.mem_or_eq_of_mem_set hy with h | h
    · exact I.sm y h
    · rw [h]
      exact hx
theorem I7.due {al' : List Nat} (I : I7 t g L Dl us xs b al ds n H) : I7 t g L Dl us xs b al' ds n (upd H Dl (.lst (al'.map fun j => V.int (j : Nat)))) := by
  have tk : Tk H (upd H Dl (.lst (al'.map fun j => V.int (j : Nat)))) := Tk.lst I.hD
  exact ⟨by rw [upd_ne I.n5]; exact I.hL, I.rp.keep tk, I.sm, I.fl, upd_same, I.T.put I.n3 I.n4, I.n1, I.n2, I.n3, I.n4, I.n5⟩
theorem ixN_nat {n i : Nat} {z : Int} (e : z = (i : Int)) (h : i < n) : ixN n z = some i := by
  unfold ixN
  rw [e, if_pos (by omega), if_pos (by omega)]
  simp
end
theorem sorted_len : ∀ (l : List Nat) (lo m : Nat), l.Pairwise (· < ·) → (∀ j ∈ l, lo ≤ j ∧ j < m) → lo ≤ m → l.length ≤ m - lo
  | [], _, _, _, _, _ => Nat.zero_le _
  | a :: l, lo, m, hp, hb, _ => by
    have hp' := List.pairwise_cons.mp hp
    have h2 := hb a (List.mem_cons_self ..)
    have h1 := sorted_len l (a + 1) m hp'.2 (fun j hj => ⟨hp'.1 j hj, (hb j (List.mem_cons_of_mem _ hj)).2⟩) (by omega)
    rw [List.length_cons]
    omega
end Rg

/-! segments in another order -/
namespace Rg
open PySem PySem.Spec L2
theorem mt_indexK {X : Cx} {K : PySem.W.Frag} (h : X.K = K := by rfl) : MtR X "list.index" (rIndex K) := by subst h; exact mt_index
/-- a comprehension of things that are tuples all through -/
def CompR {β : Type} (D : Addr) (H1 : Hp) (xs : List β) (f : β → PyData) (i : Nat) (H' : Hp) : Prop := ∃ vs, H' D = some (.lst vs) ∧ RpAll H' vs ((xs.take i).map f) ∧ Same H1 H'
theorem CompR.start {β : Type} {D : Addr} {H1 : Hp} {xs : List β} {f : β → PyData} (hD : H1 D = none) : CompR D H1 xs f 0 (upd H1 D (.lst [])) := ⟨[], upd_same, .nil, same_upd hD⟩
theorem CompR.step {β : Type} {D : Addr} {H1 H2 H4 : Hp} {xs : List β} {f : β → PyData} {i : Nat} {b : β} {y : V} (h : CompR D H1 xs f i H2) (hD : H1 D = none) (hi : i ≤ 1000) (hb : xs[i]? = some b) (k : Same H2 H4) (r : Rp H4 y (f b)) :
    ∃ acc, H4 D = some (.lst acc) ∧ acc.length < sizeLine ∧ CompR D H1 xs f (i + 1) (upd H4 D (.lst (acc ++ [y]))) := by
  obtain ⟨vs, h1, h2, s1⟩ := h
  have e4 := k _ _ h1
  have tk : Tk H4 (upd H4 D (.lst (vs ++ [y]))) := Tk.lst e4
  refine ⟨vs, e4, ?_, vs ++ [y], upd_same, ?_, fun c o q => ?_⟩
  · rw [h2.length, List.length_map, List.length_take]
    exact small1000 (by omega)
  · rw [take_snoc hb, List.map_append]
    exact ((h2.keep (Tk.of k)).keep tk).append (.cons (r.keep tk) .nil)
  · rw [upd_ne (ne_of_none q hD)]
    exact k _ _ (s1 _ _ q)
theorem CompR.end {β : Type} {D : Addr} {H1 H2 : Hp} {xs : List β} {f : β → PyData} {n : Nat} (h : CompR D H1 xs f n H2) (hn : n = xs.length) : ∃ vs, H2 D = some (.lst vs) ∧ RpAll H2 vs (xs.map f) ∧ Same H1 H2 := by
  subst hn
  obtain ⟨vs, h1, h2, s⟩ := h
  rw [List.take_length] at h2
  exact ⟨vs, h1, h2, s⟩
/-! ### numbers of segments put otherwise -/
def spV (sp : List Nat) : List V := sp.map fun j => V.int (j : Nat)
def putW (sp : List Nat) : Wd → Wd
  | .num n => .num n
  | .ptr r s p => .ptr r (sp.getD s.toNat 0 : Nat) p
def putR (sp : List Nat) (r : Rw) : Rw := match r.ns with
  | [q, s, n] => if r.op = "aim" then ⟨r.op, [q, (sp.getD s.toNat 0 : Nat), n]⟩ else r
  | _ => r
def putS (sp : List Nat) (x : Sg) : Sg := { x with ws := x.ws.map (putW sp), rs := x.rs.map (putR sp) }
/-- what is named is there -/
def inW (N : Nat) : Wd → Prop
  | .num _ => True
  | .ptr _ s _ => 0 ≤ s ∧ s < (N : Int)
def inR (N : Nat) (r : Rw) : Prop := ∀ q s n, r.ns = [q, s, n] → r.op = "aim" → 0 ≤ s ∧ s < (N : Int)
theorem sp_at {sp : List Nat} {s : Int} (h0 : 0 ≤ s) (h1 : s < sp.length) : atI (spV sp) s = some (.int (sp.getD s.toNat 0 : Nat)) := by
  have hl : s.toNat < sp.length := by omega
  refine at_of (j := s.toNat) (by omega) ?_
  unfold spV
  rw [List.getElem?_map, List.getElem?_eq_getElem hl, List.getD_eq_getElem?_getD, List.getElem?_eq_getElem hl]
  rfl
def spPutW : Sp := fun vs H Q _ => ∃ (v : V) (S : Addr) (x : Wd) (sp : List Nat), vs = [v, .ref S] ∧ Rp H v x.d ∧ H S = some (.lst (spV sp)) ∧ inW sp.length x ∧ ∀ (u : V) (H' : Hp), Same H H' → Rp H' u (putW sp x).d → Q u H'
def spPutR : Sp := fun vs H Q _ => ∃ (v : V) (S : Addr) (x : Rw) (sp : List Nat), vs = [v, .ref S] ∧ Rp H v x.d ∧ RwForm x ∧ H S = some (.lst (spV sp)) ∧ inR sp.length x ∧ ∀ (u : V) (H' : Hp), Same H H' → Rp H' u (putR sp x).d → Q u H'
def spPutS : Sp := fun vs H Q _ => ∃ (v : V) (S : Addr) (x : Sg) (sp : List Nat), vs = [v, .ref S] ∧ Rp H v x.d ∧ SgSmall x ∧ H S = some (.lst (spV sp)) ∧ (∀ y ∈ x.ws, inW sp.length y) ∧ (∀ y ∈ x.rs, inR sp.length y) ∧ ∀ (u : V) (H' : Hp), Same H H' → Rp H' u (putS sp x).d → Q u H'
end Rg

/-! ways of statements that join again; unpacked lists; tables put otherwise -/
namespace Rg
open PySem PySem.Spec L2
theorem rd_seqJ {t u : TS} {D : Ends} {σ : L2.St} {H : Hp} (post : L2.St → Hp → Prop) (h1 : ∀ R : L2.St → Hp → Prop, (∀ σ' H', post σ' H' → R σ' H') → t { D with nx := R } σ H) (h2 : ∀ σ' H', post σ' H' → u D σ' H') : tSeq t u D σ H := h1 (u D) h2
theorem rd_glst {K : PySem.W.Frag} {σ : L2.St} {H : Hp} {R : L2.St → Hp → Prop} {n : Nat} {t : TGs} {a : Addr} {xs : List V} (h : H a = some (.lst xs)) (hl : xs.length = n) (q : t xs σ H R) : gLst K n t (.ref a) σ H R := ⟨a, xs, rfl, SqL.of h, hl, q⟩
theorem rd_neB {H : Hp} {Q : VK} {a b : Bool} (h : Q (.bl (a != b)) H) : rNe (.bl a) (.bl b) H Q := by
  refine ⟨rfl, ?_⟩
  have e : (!decide (V.bl a = V.bl b)) = (a != b) := by cases a <;> cases b <;> simp
  rw [e]
  exact h
theorem rd_eqB {H : Hp} {Q : VK} {a b : Bool} (h : Q (.bl (a == b)) H) : rEq (.bl a) (.bl b) H Q := by
  refine ⟨rfl, ?_⟩
  have e : decide (V.bl a = V.bl b) = (a == b) := by cases a <;> cases b <;> simp
  rw [e]
  exact h
def dSg : Sg := ⟨0, 0, 0, "", 0, [], []⟩
theorem alD_rp {S : Addr → Prop} {H : Hp} {v : V} {r : Int} {x : Sg} (h : DL S H v (alD r x)) : Rp H v (alD r x) := by
  unfold alD at *
  cases h with
  | tup e h =>
    cases h with
    | cons a1 h =>
      cases h with
      | cons a2 h =>
        cases h with
        | cons a3 h =>
          cases h with
          | cons a4 h =>
            cases h
            cases a1; cases a2; cases a3; cases a4
            exact .tup e (.cons (.bl _) (.cons (.bl _) (.cons (.bl _) (.cons (.bl _) .nil))))
theorem tab_lay (xs : List Sg) : (tabD xs).canLay0 = true := by
  show PyData.canLayAll0 ((List.range 8).map fun r => .list (xs.map (alD (r : Nat)))) = true
  refine lay_map (f := fun r : Nat => PyData.list (xs.map (alD (r : Nat)))) _ fun r _ => ?_
  show PyData.canLayAll0 (xs.map (alD (r : Nat))) = true
  exact lay_map _ fun x _ => rfl
theorem tab_shaped (xs : List Sg) (hl : xs.length ≤ 1000) : SeqAt.shaped (tabD xs) = true := shaped_of (tab_lay xs) (tab_ok xs hl) (by decide)
end Rg

/-! sum of truths; lists of truths -/
namespace Rg
open PySem PySem.Spec L2
def one01 (b : Bool) : Int := if b = true then 1 else 0
def rSumB (K : PySem.W.Frag) : List V → Hp → VK → Prop := fun vs H Q => ∃ (a : Addr) (bs : List Bool), vs = [.ref a] ∧ SqL K H a (bs.map V.bl) ∧ Q (.int (bs.map one01).sum) H
theorem vals_bl : ∀ {bs : List Bool} {us : List Value} {i : Nat} {v : Value}, Vals (bs.map V.bl) us → us[i]? = some v → ∃ b, bs[i]? = some b ∧ v = .bool b
  | [], _, i, v, h, e => by
    cases h
    simp at e
  | b :: bs, _, i, v, h, e => by
    cases h with
    | cons r t =>
      match i, e with
      | 0, e =>
        have e' := Option.some.inj e
        subst e'
        exact ⟨b, rfl, r⟩
      | i + 1, e =>
        obtain ⟨b', h1, h2⟩ := vals_bl t (i := i) (by simpa using e)
        exact ⟨b', by simpa using h1, h2⟩
theorem cr_sumB {X : Cx} {K : PySem.W.Frag} (hc : X.calm = true) (hK : X.K = K := by rfl) : CallR X (.builtin "sum") (rSumB K) := by
  subst hK
  intro pins s σ H vs us Q I r h
  obtain ⟨a, bs, rfl, hs, q⟩ := h
  obtain ⟨its, rv, hl, _⟩ := I.list hs
  rw [Vals.ref1 r]
  have hL := hl.isList
  have lt : a < s.heap.objs.size := by
    obtain ⟨_, e, _⟩ := hL
    exact Heap.lt_size e
  have ln : its.length = bs.length := by rw [← rv.length, List.length_map]
  refine call_sum_walkAnyB (wpAny_pyIter_list hL ?_)
  refine ⟨s.heap.objs.size, [s.heap.objs.size, a], [s.heap.objs.size], _, its.toArray.size, _, _, fun i => (bs.map one01).getD i 0, rfl, (Walks.list (A := X.A.in1) (I.ok.hd hc) _ a (Nat.ne_of_lt lt) its.toArray).toS, ⟨⟨_, Heap.get?_push_size _ rfl, rfl, rfl⟩, hL.push _⟩, fun b hb => ?_, fun i v hv => ?_, fun s' t' hm => ?_⟩
  · show b < (Heap.push s.heap _).objs.size
    rw [Heap.size_push]
    rcases List.mem_cons.mp hb with h | h
    · exact h ▸ Nat.lt_succ_self _
    · exact List.mem_singleton.mp h ▸ Nat.lt_succ_of_lt lt
  · obtain ⟨b, h1, rfl⟩ := vals_bl rv (by simpa using hv)
    refine .inr ⟨b, rfl, ?_⟩
    dsimp only
    rw [List.getD_eq_getElem?_getD, List.getElem?_map, h1]
    rfl
  · have e : PySem.preSum (fun i => (bs.map one01).getD i 0) its.toArray.size = (bs.map one01).sum := by
      rw [PyProof.Rows.preSum_getD, List.take_of_length_le (by simp; omega)]
    rw [e, Moved.eq_with hm]
    refine ⟨.int _, H, I.kept (h' := s'.heap) (t' := s'.toks) (fun b o hb => ?_), ⟨_, rfl⟩, q⟩
    exact hm.heap b o (fun hmem => Nat.ne_of_lt (Heap.lt_size hb) (List.mem_singleton.mp hmem)) (Heap.get?_push_of_some _ hb)
theorem inV_bl (b : Bool) (bs : List Bool) : inV (.bl b) (bs.map V.bl) = bs.contains b := by
  induction bs with
  | nil => rfl
  | cons a r ih =>
    have h : inV (.bl b) ((a :: r).map V.bl) = (eqV (.bl a) (.bl b) || inV (.bl b) (r.map V.bl)) := rfl
    rw [h, ih, List.contains_cons]
    cases a <;> cases b <;> rfl
theorem dp_bls {K : PySem.W.Frag} {H : Hp} : ∀ (bs : List Bool), DpAll K H (bs.map V.bl) (bs.map PyData.bool)
  | [] => .nil
  | b :: bs => .cons (.bl b) (dp_bls bs)
theorem dp_blm {K : PySem.W.Frag} {H : Hp} {α : Type} (f : α → Bool) : ∀ (xs : List α), DpAll K H (xs.map fun k => V.bl (f k)) ((xs.map f).map PyData.bool)
  | [] => .nil
  | b :: bs => .cons (.bl (f b)) (dp_blm f bs)
theorem lay_bls (bs : List Bool) : (PyData.list (bs.map PyData.bool)).canLay0 = true := lay_map bs fun _ _ => rfl
theorem shaped_bls (bs : List Bool) : SeqAt.shaped (.list (bs.map PyData.bool)) = true := by
  have h2 : ∀ bs : List Bool, PyData.depthAll (bs.map .bool) = 0 := fun bs => by
    induction bs with
    | nil => rfl
    | cons a r ih =>
      show max (PyData.depth (.bool a)) (PyData.depthAll (r.map .bool)) = 0
      rw [ih]
      rfl
  unfold SeqAt.shaped
  rw [lay_bls, show PyData.depth (.list (bs.map PyData.bool)) = PyData.depthAll (bs.map PyData.bool) + 1 from rfl, h2]
  rfl
/-- ways that join again, the names as they were -/
theorem rd_seqH {t u : TS} {D : Ends} {σ : L2.St} {H : Hp} (post : Hp → Prop) (h1 : ∀ R : L2.St → Hp → Prop, (∀ H', post H' → R σ H') → t { D with nx := R } σ H) (h2 : ∀ H', post H' → u D σ H') : tSeq t u D σ H := by
  refine rd_seqJ (fun σ' H' => σ' = σ ∧ post H') (fun R hR => h1 R fun H' h => hR σ H' ⟨rfl, h⟩) ?_
  rintro σ' H' ⟨rfl, h⟩
  exact h2 H' h
theorem cut_lo (xs : List V) (n : Nat) : cutV xs (some (n : Int)) none = xs.drop n := by
  unfold cutV
  rw [HT.sIx_nat]
  have : HT.sIx xs.length xs.length none = xs.length := rfl
  rw [this]
  by_cases h : n ≤ xs.length
  · rw [Nat.min_eq_left h]
    exact List.take_of_length_le (by rw [List.length_drop]; omega)
  · rw [Nat.min_eq_right (by omega), Nat.sub_self, List.take_zero, List.drop_of_length_le (by omega)]
theorem all_flat (bs : List Bool) : (bs.map V.bl).all flatV = true := by
  rw [List.all_map, List.all_eq_true]
  exact fun _ _ => rfl
end Rg

/-! an error that is kept beyond its suite: what follows is read with the error's object pinned -/
namespace Rg
open PySem PySem.Spec L2
/-- the context with one more object pinned -/
abbrev pinX (X : Cx) (pn : List (Addr × Obj)) : Cx := { X with pn := pn }
def wKp (K : PySem.W.Frag) (c : Value) (i : Nat) (t₀ : TS) (ts : Addr → Value → Option Addr → TS) (D : Ends) : WX := fun cls d σ H =>
  PySem.W.exmOne K cls c = some true ∧ ∀ a, H a = none → t₀ { nx := fun σ' H' => ts a cls d D (σ'.set i none) H', rt := fun _ _ => False, bk := fun _ _ => False, ct := fun _ _ => False } (σ.set i (some (.ref a))) H
section
variable {X : Cx} {pins : List (Addr × Obj)} {σ : L2.St} {H : Hp} {s : Shared}
theorem inv_pin {a : Addr} {q : Addr × Obj} {pn' : List (Addr × Obj)} (J : L2.Inv (X.suite a (q :: (X.pn ++ pins))) pn' σ H s) (ok : X.Ok) : L2.Inv (pinX X (q :: (X.pn ++ pins))) [] σ H s where
  ok := ok.toTry (q :: (X.pn ++ pins)) X.xe
  os := J.os
  bare := J.bare
  base := J.base
  loc := J.loc
  cell := J.cell
  free := J.free
  freeC := J.freeC
  pin := fun p hp => J.pin p (List.mem_append_left pn' (by rw [List.append_nil] at hp; exact hp))
  hok := J.hok
  len := J.len
theorem pin_inv {q : Addr × Obj} (J : L2.Inv (pinX X (q :: (X.pn ++ pins))) [] σ H s) (ok : X.Ok) : L2.Inv X pins σ H s where
  ok := ok
  os := J.os
  bare := J.bare
  base := J.base
  loc := J.loc
  cell := J.cell
  free := J.free
  freeC := J.freeC
  pin := fun p hp => J.pin p (by rw [List.append_nil]; exact List.mem_cons_of_mem _ hp)
  hok := J.hok
  len := J.len
theorem sp_pin {q : Addr × Obj} {D : Ends} {f : Flow} (ok : X.Ok) (h : SP (pinX X (q :: (X.pn ++ pins))) [] D f s) : SP X pins D f s := by
  cases f with
  | next => exact let ⟨σ', H', J, r⟩ := h; ⟨σ', H', pin_inv J ok, r⟩
  | brk => exact let ⟨σ', H', J, r⟩ := h; ⟨σ', H', pin_inv J ok, r⟩
  | cont => exact let ⟨σ', H', J, r⟩ := h; ⟨σ', H', pin_inv J ok, r⟩
  | ret u => exact let ⟨v, σ', H', J, r1, r⟩ := h; ⟨v, σ', H', pin_inv J ok, r1, r⟩
end
section
variable {X : Cx} {x n : Str} {c : Value} {i : Nat} {body rest : List Stmt} {b₀ : Stmt} {np pos pos' : Pos} {tb : WX → TS} {tr t₀ : TS} {ts : Addr → Value → Option Addr → TS}
theorem pss_try_keep (hs : X.stack = X.env :: X.outer) (hf : X.env.frame = some X.env.locals) (hN : X.N.Nodup) (hi : X.N[i]? = some n) (hln : X.env.kindOf n = some .local) (hc : Names X x c)
    (hb : ∀ (W : WX) (pn : List (Addr × Obj)) (xe : Value → Shared → Prop), Takes (X.tr pn xe) W → PassesOwn (model X.prog X.w) X.A X.env xe → PSs (X.tr pn xe) body (tb W))
    (h0 : PSs X rest tr) (h1 : ∀ (a : Addr) (pn : List (Addr × Obj)), PSs (X.suite a pn) [b₀] t₀)
    (h2 : ∀ (a : Addr) (oe : Obj) (cls : Value) (d : Option Addr) (pn : List (Addr × Obj)), Zc cls d oe → (∃ fv, oe.data = .fields fv) → PSs (pinX X ((a, oe) :: pn)) rest (ts a cls d)) :
    PSs X (.Try body [.ExceptHandler (some (.Name x np)) (some n) [b₀] pos'] [] [] pos :: rest) (fun D σ H => tb (wKp X.K c i t₀ ts D) { D with nx := tr D } σ H) := by
  refine ⟨fun pins s σ H D I h => wpAny_execs_cons (wpAny_Try_except ?_)⟩
  have ok := I.ok
  have frm : X.A.frames = some (X.env :: X.outer) := hs ▸ ok.frames
  refine wpAny_mono ((hb (wKp X.K c i t₀ ts D) (X.pn ++ pins) _ (fun u z ev => ?_) PassesOwn.looking).run [] s σ H { D with nx := tr D } (I.toTry _) h) (fun fl z hz => ?_) (fun _ _ he => he)
  case refine_2 =>
    cases fl with
    | next =>
      obtain ⟨σ1, H1, J, r⟩ := hz
      exact wpAny_execs_nil (h0.run pins z σ1 H1 D (J.ofTry ok) r)
    | brk => exact let ⟨σ1, H1, J, r⟩ := hz; ⟨σ1, H1, J.ofTry ok, r⟩
    | cont => exact let ⟨σ1, H1, J, r⟩ := hz; ⟨σ1, H1, J.ofTry ok, r⟩
    | ret u => exact let ⟨v, σ1, H1, J, r1, r⟩ := hz; ⟨v, σ1, H1, J.ofTry ok, r1, r⟩
  obtain ⟨a, B, sB, _, σ1, H1, cls, d, rfl, J0, q1, q2, q3, na, q5, q6, exm, go⟩ := ev
  have J : L2.Inv X pins σ1 H1 sB := J0.ofTry ok
  show wpAny (model X.prog X.w) X.A (noteFrame (.ref a) X.env) _ _ _
  refine Sky.land Zc.steady frm hf (hs ▸ q3) fun hA fA uA => ?_
  have JA : L2.Inv X pins σ1 H1 { z with heap := hA } := J.landed q1 fA.1 (q2.trans uA) q5 q6
  obtain ⟨oA, vA, gA, zA, dA⟩ := fA.there
  have nofr : a ∉ frs (X.env :: X.outer) := fun hm => by
    obtain ⟨_, o', e', nf⟩ := fA.2.2.1.mem hm
    cases gA.symm.trans e'
    exact nf vA dA
  have nL : a ≠ X.env.locals := fun e => nofr (List.mem_filterMap.mpr ⟨X.env, List.mem_cons_self, e ▸ hf⟩)
  have nF : a ∉ X.fs := fun hm => let ⟨e, he, q⟩ := List.mem_filterMap.mp hm; nofr (List.mem_filterMap.mpr ⟨e, List.mem_cons_of_mem _ he, q⟩)
  have SA := JA.suite gA dA na nL nF
  refine wpAny_handleBy_cons (codeAny_handlers_test ?_) (fun q => nomatch q)
  have lk : PySem.W.Looks (model X.prog X.w) hA (typeOf (.ref a)) cls := fun A0 Q0 E0' s0 k0 q0 => wpAny_typeOf_ref (k0 a oA gA) (zA.1 ▸ q0)
  have lm := PySem.W.exm_one (M := model X.prog X.w) JA.kIn lk exm
  have named : ∀ {Q0 E0' : Value → Shared → Prop}, Q0 c { z with heap := hA } → wpAny (model X.prog X.w) (X.A.mark (some (.ref a))) (eval (.Name x np) X.env) Q0 E0' { z with heap := hA } := fun {Q0 E0'} q0 => by
    obtain ⟨g1, g2, g3 | ⟨g3, g4, g5⟩⟩ := hc
    · exact ld_glob (X := X.suite a ((a, oA) :: (X.pn ++ pins))) SA g1 g3 q0 g2
    · exact ld_blt (X := X.suite a ((a, oA) :: (X.pn ++ pins))) SA g1 g3 g4 q0 g5 g2
  refine named (lm.here (codeAny_handlers_suite_as (HandSPX.lands_againZ fA fun hC fC uC => ?_)))
  have JC : L2.Inv X pins σ1 H1 { z with heap := hC } := J.landed q1 fC.1 ((q2.trans uA).trans uC) q5 q6
  obtain ⟨oC, vC, gC, zC, dC⟩ := fC.there
  refine store_ok (X := X.suite a ((a, oC) :: (X.pn ++ pins))) (v := .ref a) (JC.suite gC dC na nL nF) hN hi (.inl hln) rfl (fun sD SD => ?_) (.inr hln)
  refine wpAny_mono ((h1 a ((a, oC) :: (X.pn ++ pins))).run [] sD _ H1 _ SD (go a na)) (fun fl sE he => ?_) (fun _ _ q => False.elim q)
  cases fl with
  | next =>
    obtain ⟨σ2, H2, S2, r2⟩ := he
    have P2 := inv_pin S2 ok
    exact gone_ok (X := pinX X ((a, oC) :: (X.pn ++ pins))) P2 hN hi hln fun sF PF => thn ((h2 a oC cls d (X.pn ++ pins) zC ⟨vC, dC⟩).run [] sF _ H2 D PF r2) fun fl' sG q => sp_pin ok q
  | brk => exact let ⟨_, _, _, q⟩ := he; False.elim q
  | cont => exact let ⟨_, _, _, q⟩ := he; False.elim q
  | ret u => exact let ⟨_, _, _, _, _, q⟩ := he; False.elim q
end
section
variable {X : Cx} {a : Addr} {oe : Obj} {cls : Value} {d : Option Addr} {pn : List (Addr × Obj)} {K : PySem.W.Frag}
theorem inst_pin {pins : List (Addr × Obj)} {σ : L2.St} {H : Hp} {s : Shared} {D dd : Addr} {fs : List (Str × V)} (hz : Zc (.ref D) (some dd) oe) (hf : ∃ fv, oe.data = .fields fv) (I : L2.Inv (pinX X ((a, oe) :: pn)) pins σ H s) (hx : H dd = some (.xd fs)) : ∃ od, PySem.W.InstAt s.heap a oe D (some od) := by
  obtain ⟨fv, hv⟩ := hf
  have g := (I.pin (a, oe) (List.mem_append.mpr (.inl List.mem_cons_self))).1
  obtain ⟨mA, ⟨o, _, _, e, _⟩, _⟩ := (show ObjOk X.prog X.w H s.heap dd (.xd fs) from I.hok dd _ hx)
  obtain ⟨oc, od, oda, osl⟩ := oe
  obtain ⟨h1, h2⟩ := hz
  dsimp only at h1 h2 hv
  subst h1 h2 hv
  exact ⟨o, g, rfl, rfl, e⟩
/-- isinstance(caught, C) -/
theorem crp_isX (hz : Zc cls d oe) (hf : ∃ fv, oe.data = .fields fv) (hK : X.K = K := by rfl) : CallR (pinX X ((a, oe) :: pn)) (.builtin "isinstance") (rIsX K a cls d) := by
  subst hK
  intro pins s σ H xs us Q I r h
  obtain ⟨c, D, dd, fs, cv, b, rfl, rfl, rfl, hx, E, k, e, q⟩ := h
  obtain ⟨u1, u2, rfl, r1, r2⟩ := vals2 r
  cases r1
  cases k.eq r2
  obtain ⟨od, J⟩ := inst_pin hz hf I hx
  exact PySem.W.kia_one (PySem.W.kitx_exc E.cl E.xf.ga E.xf.gg E.xf.exC E.ha E.hn E.ht E.hm) I.kIn J e (fun z => nomatch z) fun tk => ⟨.bl b, H, I.tok tk, rfl, q⟩
theorem crp_isXT (hz : Zc cls d oe) (hf : ∃ fv, oe.data = .fields fv) (hK : X.K = K := by rfl) : CallR (pinX X ((a, oe) :: pn)) (.builtin "isinstance") (rIsXT K a cls d) := by
  subst hK
  intro pins s σ H xs us Q I r h
  obtain ⟨tp, D, dd, cs, ws, fs, b, rfl, rfl, rfl, hx, E, hT, k, e, q⟩ := h
  obtain ⟨u1, u2, rfl, r1, r2⟩ := vals2 r
  cases r1
  cases (show u2 = Value.ref tp from r2)
  obtain ⟨od, J⟩ := inst_pin hz hf I hx
  obtain ⟨_, its, rv, o, h1, h2, n, h3⟩ := (show ObjOk X.prog X.w H s.heap tp (.tup cs) from I.hok tp _ hT)
  have e3 := ClsV.all k rv
  subst e3
  obtain ⟨oc, od', dt, sl⟩ := o
  simp only at h2 h3
  subst h2 h3
  exact PySem.W.kia_tup (PySem.W.kitx_exc E.cl E.xf.ga E.xf.gg E.xf.exC E.ha E.hn E.ht E.hm) I.kIn J h1 e (fun z => nomatch z) fun tk => ⟨.bl b, H, I.tok tk, rfl, q⟩
/-- caught.f -/
theorem pep_xf {C : Addr} {e : Expr} {te : TE} {pos : Pos} {n : Str} (T : XfC X.K C) (hno : PySem.W.findIn X.K (.ref C) n = some none) (hz : Zc cls d oe) (hf : ∃ fv, oe.data = .fields fv) (he : PE (pinX X ((a, oe) :: pn)) e te) (hb : attributeBase e n X.env (eval e X.env) = eval e X.env := by rfl) :
    PE (pinX X ((a, oe) :: pn)) (.Attribute e n pos) (tXf a cls d C n te) := by
  refine ⟨fun pins s σ H Q I h => attr_of hb (thn (he.run pins s σ H _ I h) fun u z hh => ?_)⟩
  obtain ⟨y, H1, I1, ry, ey, ec, dd, fs, v, ed, ea, lv, q⟩ := hh
  subst ey ec ed
  obtain rfl : u = Value.ref a := ry
  have g := (I1.pin (a, oe) (List.mem_append_left _ List.mem_cons_self)).1
  obtain ⟨fv, dv⟩ := hf
  obtain ⟨mA, ns, rl⟩ := (show ObjOk X.prog X.w H1 z.heap dd (.xd fs) from I1.hok dd _ ea)
  obtain ⟨od, ho, look⟩ := lookIn_ns ns
  obtain ⟨w, hw, rw'⟩ := RelO.some_of (v := v) (o := mA n) (lv ▸ rl n)
  have J : PySem.W.InstAt z.heap a oe C (some od) := ⟨g, hz.1, by unfold PySem.W.notCls; rw [dv] <;> rfl, hz.2 ▸ ho⟩
  exact HandSPX.exc_get I1.kIn J T.ga T.gg T.exC (PySem.W.findObj_own T.hdC hno rfl (by rw [look, hw])) (handed_of rw') ⟨v, H1, I1.tok _, rw', q⟩
end
end Rg

/-! decks -/
namespace Rg
open PySem PySem.Spec L2
/-- a deck of draws: two lists -/
structure Deck (H : Hp) (t g : Addr) (n : Nat) : Prop where
  ne : t ≠ g
  ex : ∃ (gs : List Int) (f c : Int), H t = some (.lst [.ref g, .int f, .int c]) ∧ H g = some (.lst (gs.map V.int)) ∧ (∀ z ∈ gs, 0 ≤ z) ∧ 0 ≤ f ∧ f < 2305843009213693952 ∧ 0 ≤ c ∧ c ≤ (n : Int)
theorem Deck.mono {H : Hp} {t g : Addr} {n m : Nat} (T : Deck H t g n) (h : n ≤ m) : Deck H t g m := by
  obtain ⟨ne, gs, f, c, h1, h2, h3, h4, h5, h6, h7⟩ := T
  exact ⟨ne, gs, f, c, h1, h2, h3, h4, h5, h6, by omega⟩
theorem Deck.same {H H' : Hp} {t g : Addr} {n : Nat} (T : Deck H t g n) (s : Same H H') : Deck H' t g n := by
  obtain ⟨ne, gs, f, c, h1, h2, h3⟩ := T
  exact ⟨ne, gs, f, c, s _ _ h1, s _ _ h2, h3⟩
theorem Deck.new {H : Hp} {t g p : Addr} {n : Nat} {o : HO} (T : Deck H t g n) (h : H p = none) : Deck (upd H p o) t g n := T.same (same_upd h)
theorem Deck.put {H : Hp} {t g p : Addr} {n : Nat} {o : HO} (T : Deck H t g n) (h1 : p ≠ t) (h2 : p ≠ g) : Deck (upd H p o) t g n := by
  obtain ⟨ne, gs, f, c, e1, e2, h3⟩ := T
  exact ⟨ne, gs, f, c, by rw [upd_ne (Ne.symm h1)]; exact e1, by rw [upd_ne (Ne.symm h2)]; exact e2, h3⟩
theorem Deck.ht {H : Hp} {t g : Addr} {n : Nat} (T : Deck H t g n) : ∃ xs, H t = some (.lst xs) := by
  obtain ⟨_, _, _, _, e, _⟩ := T
  exact ⟨_, e⟩
theorem Deck.hg {H : Hp} {t g : Addr} {n : Nat} (T : Deck H t g n) : ∃ xs, H g = some (.lst xs) := by
  obtain ⟨_, _, _, _, _, e, _⟩ := T
  exact ⟨_, e⟩
/-- a place that was free is none of the tray's -/
theorem Deck.net {H : Hp} {t g p : Addr} {n : Nat} (T : Deck H t g n) (h : H p = none) : p ≠ t := by
  obtain ⟨_, e⟩ := T.ht
  exact Ne.symm (ne_of_none e h)
theorem Deck.neg {H : Hp} {t g p : Addr} {n : Nat} (T : Deck H t g n) (h : H p = none) : p ≠ g := by
  obtain ⟨_, e⟩ := T.hg
  exact Ne.symm (ne_of_none e h)
theorem Deck.netT {H : Hp} {t g p : Addr} {n : Nat} {xs : List V} (T : Deck H t g n) (h : H p = some (.tup xs)) : p ≠ t := by
  obtain ⟨_, e⟩ := T.ht
  exact ne_of h e (fun z => nomatch z)
theorem Deck.negT {H : Hp} {t g p : Addr} {n : Nat} {xs : List V} (T : Deck H t g n) (h : H p = some (.tup xs)) : p ≠ g := by
  obtain ⟨_, e⟩ := T.hg
  exact ne_of h e (fun z => nomatch z)
theorem Kp.dk {t g : Addr} {H H' : Hp} {n : Nat} (k : Kp t g H H') (T : Deck H t g n) : Tk H H' := fun b xs e => k b _ e (T.netT e) (T.negT e)

/-! ### a comprehension of drawn things -/
def DeckL (t g D : Addr) (H1 : Hp) (n0 c : Nat) (Pd : PyData → Prop) (i : Nat) (H' : Hp) : Prop :=
  ∃ (vs : List V) (ds : List PyData), H' D = some (.lst vs) ∧ RpAll H' vs ds ∧ ds.length = i ∧ (∀ d ∈ ds, Pd d) ∧ Deck H' t g (n0 + c * i) ∧ Kp t g H1 H'
theorem DeckL.start {t g D : Addr} {H1 : Hp} {n0 c : Nat} {Pd : PyData → Prop} (T : Deck H1 t g n0) (hD : H1 D = none) : DeckL t g D H1 n0 c Pd 0 (upd H1 D (.lst [])) :=
  ⟨[], [], upd_same, .nil, rfl, fun _ h => (nomatch h), (T.new hD).mono (by omega), Kp.new hD⟩
theorem DeckL.deck {t g D : Addr} {H1 H2 : Hp} {n0 c i : Nat} {Pd : PyData → Prop} (h : DeckL t g D H1 n0 c Pd i H2) : Deck H2 t g (n0 + c * i) := by
  obtain ⟨_, _, _, _, _, _, T, _⟩ := h
  exact T
theorem DeckL.step {t g D : Addr} {H1 H2 H4 : Hp} {n0 c i n : Nat} {Pd : PyData → Prop} {y : V} {d : PyData} (h : DeckL t g D H1 n0 c Pd i H2) (T1 : Deck H1 t g n0) (hD : H1 D = none) (hi : i ≤ 1000) (T : Deck H4 t g n) (hn : n ≤ n0 + c * i + c) (k : Kp t g H2 H4) (r : Rp H4 y d) (p : Pd d) :
    ∃ acc, H4 D = some (.lst acc) ∧ acc.length < sizeLine ∧ DeckL t g D H1 n0 c Pd (i + 1) (upd H4 D (.lst (acc ++ [y]))) := by
  obtain ⟨vs, ds, e, ra, hl, hp, T2, k2⟩ := h
  have e4 : H4 D = some (.lst vs) := k D _ e (T1.net hD) (T1.neg hD)
  have tk : Tk H2 (upd H4 D (.lst (vs ++ [y]))) := (k.dk T2).trans (Tk.lst e4)
  refine ⟨vs, e4, by rw [ra.length, hl]; exact small1000 hi, vs ++ [y], ds ++ [d], upd_same, (ra.keep tk).append (.cons (r.keep (Tk.lst e4)) .nil), by simp [hl], fun z hz => ?_, (T.put (T1.net hD) (T1.neg hD)).mono (by rw [Nat.mul_succ]; omega), (k2.trans k).put hD⟩
  rcases List.mem_append.mp hz with q | q
  · exact hp z q
  · rw [List.mem_singleton.mp q]
    exact p
theorem Deck.kfree {t g D : Addr} {H H' : Hp} {n : Nat} (T : Deck H' t g n) (k : Kp t g H H') (hD : H' D = none) : H D = none := by
  cases e : H D with
  | none => rfl
  | some o =>
    have := k _ _ e (T.net hD) (T.neg hD)
    rw [hD] at this
    cases this
/-- the last item of a list -/
theorem at_last {xs : List V} {x : V} : atI (xs ++ [x]) (-1) = some x := by
  unfold atI
  have h : ixN (xs ++ [x]).length (-1) = some xs.length := by
    unfold ixN
    simp
    omega
  first
    | rw [h]; simp
    | simp
theorem ix_last {n : Nat} : ixN (n + 1) (-1) = some n := by
  unfold ixN
  simp
  omega
end Rg

/-! stands -/
namespace Rg
open PySem PySem.Spec L2
/-- a pointer, or None -/
abbrev Pt := Option (Int × Int × Int)
def ptD : Pt → PyData
  | none => .none
  | some (r, s, p) => .tuple [.int r, .int s, .int p]
def memD (m : List (List Wd)) : PyData := .tuple (m.map fun ws => .tuple (ws.map Wd.d))
structure Sd where
  ring : Int
  a : Int
  pt : List Pt
  me : List (List Wd)
def Sd.d (s : Sd) : PyData := .tuple [.int s.ring, .int s.a, .tuple (s.pt.map ptD), memD s.me]
def firstS (xs : List Sg) (r : Int) : Sd := ⟨r, 0, [none, none, none, none], xs.map Sg.ws⟩
theorem okN_mono : ∀ {j k : Nat} {d : PyData}, j ≤ k → okN j d → okN k d
  | 0, _, _, _, h => h.elim
  | j + 1, k + 1, .none, _, _ => trivial
  | j + 1, k + 1, .bool _, _, _ => trivial
  | j + 1, k + 1, .int _, _, _ => trivial
  | j + 1, k + 1, .str _, _, _ => trivial
  | j + 1, k + 1, .dict _, _, h => h.elim
  | j + 1, k + 1, .list ds, hk, h => ⟨h.1, fun e he => okN_mono (Nat.le_of_succ_le_succ hk) (h.2 e he)⟩
  | j + 1, k + 1, .tuple ds, hk, h => ⟨h.1, fun e he => okN_mono (Nat.le_of_succ_le_succ hk) (h.2 e he)⟩
theorem okN_map {α : Type} {f : α → PyData} {j : Nat} {xs : List α} (hl : xs.length ≤ 1000) (h : ∀ x ∈ xs, okN j (f x)) : okN (j + 1) (.tuple (xs.map f)) := by
  refine ⟨by rw [List.length_map]; omega, fun e he => ?_⟩
  obtain ⟨x, hx, rfl⟩ := List.mem_map.mp he
  exact h x hx
theorem okN_mapL {α : Type} {f : α → PyData} {j : Nat} {xs : List α} (hl : xs.length ≤ 1000) (h : ∀ x ∈ xs, okN j (f x)) : okN (j + 1) (.list (xs.map f)) := by
  refine ⟨by rw [List.length_map]; omega, fun e he => ?_⟩
  obtain ⟨x, hx, rfl⟩ := List.mem_map.mp he
  exact h x hx
theorem pt_ok (p : Pt) : okN 2 (ptD p) := by
  match p with
  | none => trivial
  | some (r, s, p) => exact ⟨by show 3 ≤ 1000000; decide, ok_ints [r, s, p] 0⟩
theorem mem_ok {m : List (List Wd)} (h1 : m.length ≤ 1000) (h2 : ∀ ws ∈ m, ws.length ≤ 1000) : okN 4 (memD m) := okN_map h1 fun ws hw => okN_map (h2 ws hw) fun x _ => x.ok
theorem Sd.ok {s : Sd} (h1 : s.pt.length ≤ 1000) (h2 : s.me.length ≤ 1000) (h3 : ∀ ws ∈ s.me, ws.length ≤ 1000) : okN 5 s.d := by
  refine ⟨by show 4 ≤ 1000000; decide, fun e he => ?_⟩
  rcases List.mem_cons.mp he with rfl | he
  · trivial
  rcases List.mem_cons.mp he with rfl | he
  · trivial
  rcases List.mem_cons.mp he with rfl | he
  · exact okN_mono (j := 3) (by decide) (okN_map h1 fun p _ => pt_ok p)
  rcases List.mem_cons.mp he with rfl | he
  · exact mem_ok h2 h3
  cases he
/-- what first tells -/
def spFirst (C NR : Addr) : Sp := fun vs H Q E => ∃ (x : Addr) (us : List V) (xs : List Sg) (b r : Int), vs = [.ref x, .int r] ∧ MAt C H x us b ∧ RpAll H us (xs.map Sg.d) ∧ xs.length ≤ 900 ∧ r.natAbs.log2 < 1920 ∧
  (below r 8 = true → ∀ (v : V) (H' : Hp), Same H H' → Rp H' v (firstS xs r).d → Q v H') ∧
  (below r 8 = false → ∀ (d : Addr) (H' : Hp), H d = none → H' d = some (.xd [("what", .int r)]) → Same H H' → E (.ref NR) (some d) H')
theorem use_first {C NR x : Addr} {us : List V} {xs : List Sg} {b r : Int} {H : Hp} {Q : VK} {E : XK} (hM : MAt C H x us b) (ra : RpAll H us (xs.map Sg.d)) (hl : xs.length ≤ 900) (h0 : 0 ≤ r) (h8 : r < 8) (k : ∀ (v : V) (H' : Hp), Same H H' → Rp H' v (firstS xs r).d → Q v H') : spFirst C NR [.ref x, .int r] H Q E :=
  ⟨x, us, xs, b, r, rfl, hM, ra, hl, by
    have : r.natAbs < 2 ^ 10 := by omega
    exact Nat.lt_of_lt_of_le (PySem.Flt.log2_lt_of (by decide) this) (by decide), fun _ => k, fun hb => by rw [below_of h0 h8] at hb; cases hb⟩
end Rg

/-! for i, a in enumerate(tuple): the pairs are new tuples -/
namespace Rg
open PySem PySem.Spec PyProof.Rows L2
theorem meets_en1 {v : Value} {oi : Obj} {Hb : Heap → Prop} (Bg : Begins v oi Hb) :
    Meets (Builtin.«enumerate.__new__» ⟨[.type "enumerate", v], []⟩) (fun _ R z => Hb z.heap ∧ R (.ok (.ret (.ref (z.heap.push oi).objs.size))) { z with heap := (z.heap.push oi).push { cls := .type "enumerate", data := .fields #[.none, .bool false, .ref z.heap.objs.size, rawInt 0, .none, .none] } }) :=
  .of_wp fun prog w A R z hz => by
    obtain ⟨hp, gn, dn, tn, on⟩ := z
    obtain ⟨hb, hz⟩ := hz
    have hsub := sub_enumerate
    have go : ∀ {A' : Around} {E : Value → Shared → Prop} {Q : Value → Shared → Prop}, Q (.ref hp.objs.size) ⟨hp.push oi, gn, dn, tn, on⟩ → wpAny (model prog w) A' (pyIter v) Q E ⟨hp, gn, dn, tn, on⟩ := fun q => Bg.iter prog w _ _ _ _ hb q
    wp_walk using go
    refine wpAny_stack_any fun st => wpAny_pure ?_
    split
    · rename_i c _ _ _ _ _
      cases (c == Value.type "enumerate") <;> (wp_walk using go; exact ⟨_, rfl, hz⟩)
    · wp_walk using go; exact ⟨_, rfl, hz⟩
theorem enum_begin1 {prog : Program} {w : World} {A : Around} {E : Value → Shared → Prop} {z : Shared} {v : Value} {oi : Obj} {Hb : Heap → Prop} {Q : Value → Shared → Prop} (Bg : Begins v oi Hb) (hb : Hb z.heap)
    (k : ∀ h', IsEnum h' (z.heap.objs.size + 1) z.heap.objs.size 0 .none → h'.get? z.heap.objs.size = some oi → (∀ b o, z.heap.get? b = some o → h'.get? b = some o) → Q (.ref (z.heap.objs.size + 1)) { z with heap := h' }) :
    wpAny (model prog w) A (call (.type "enumerate") [v]) Q E z := by
  have sz : (z.heap.push oi).objs.size = z.heap.objs.size + 1 := Heap.size_push ..
  refine callType_new F.called_enumerate (by decide) (F.typeCall_enumerate_1 v) (F.newCall_enumerate_1 v) (fun obj => F.args_object_init_2 obj v) F.entry_enumerate_new (meets_en1 Bg) ⟨hb, ?_⟩
  show _ ∧ _
  rw [sz]
  have en := Heap.get?_push_size (z.heap.push oi) (o := { cls := .type "enumerate", data := .fields #[.none, .bool false, .ref z.heap.objs.size, rawInt 0, .none, .none] }) rfl
  rw [sz] at en
  exact ⟨⟨_, en, rfl⟩, k _ en (Heap.get?_push_of_some _ (Heap.get?_push_size _ Bg.free)) fun b o x => Heap.get?_push_of_some _ (Heap.get?_push_of_some _ x)⟩
/-- the items of a tuple with their places -/
def ItEt (K : PySem.W.Frag) (b : Addr) : It :=
  ⟨fun i H => ∃ (ys : List V) (y : V), SqT K H b ys ∧ ys[i]? = some y,
    fun i H v H' => ∃ T y, v = .ref T ∧ H T = none ∧ H' = upd H T (.tup [.int (i : Nat), y]) ∧ ∀ ys, SqT K H b ys → ys[i]? = some y,
    fun i H => ∃ ys : List V, SqT K H b ys ∧ i = ys.length⟩
theorem turn_enT {P : Program} {w : World} {K : PySem.W.Frag} {elts : List Expr} {kk : Nat} {tpos : Pos} {b e it : Addr} (h1 : e ≠ it) (h2 : b ≠ it) (h3 : b ≠ e) :
    Turn P w K (.Tuple elts kk tpos) (ItEt K b) [e, it] e (fun i h => (∃ old, IsEnum h e it ((0 : Int) + ((i : Nat) : Int)) old) ∧ h.IsTupleIter it b i) where
  mem := by simp
  obj := fun i h st c hc => by
    obtain ⟨⟨old, he⟩, ⟨o2, g2, _, d2⟩⟩ := st
    have cc : c = e ∨ c = it := by simpa using hc
    rcases cc with q | q
    · rw [q]; exact ⟨_, he, fun v q => nomatch q⟩
    · rw [q]; exact ⟨o2, g2, fun v q => by rw [d2] at q; cases q⟩
  keep := fun i h h' st k => let ⟨⟨old, he⟩, hi⟩ := st; ⟨⟨old, k e (by simp) _ he⟩, hi.at fun o q => k it (by simp) o q⟩
  item := by
    intro X hP hw hK hc i pins s σ H E I hf st hg
    subst hP hw hK
    obtain ⟨he, hi⟩ := st
    obtain ⟨ys, y, hqy, hy⟩ := hg
    obtain ⟨its, rv, pt, _⟩ := I.tuple hqy
    have hh : X.A.in1.handled = none := I.ok.hd hc
    have W := GoesN.enumFrom (elts := elts) (x1 := kk) (pos := tpos) 0 (Draws.tuple hh it b h2 its.toArray) e h1 (by simp [h1, Ne.symm h3]) (by simp) (prog := X.prog) (w := X.w) (A := X.A)
    have hlen : i < its.toArray.size := by
      have a2 : i < ys.length := (List.getElem?_eq_some_iff.mp hy).1
      have a3 := rv.length
      rw [List.size_toArray]
      omega
    refine W.goes i s _ _ hlen ⟨he, hi, pt⟩ fun v h' tk hY st' hk htk => ?_
    obtain ⟨T, t, u2, rfl, hT, hu2, hTup⟩ := hY
    obtain ⟨he', hi', _⟩ := st'
    obtain ⟨v2, hv2, rv2⟩ := rv.get hy
    have e2 : u2 = v2 := by
      rw [List.getElem?_toArray] at hu2
      exact Option.some.inj (hu2.symm.trans hv2)
    subst e2
    have ei : (0 : Int) + (i : Int) = (i : Int) := Int.zero_add _
    rw [ei] at hTup
    have new : ObjOk X.prog X.w (upd H T (.tup [.int (i : Nat), y])) h' T (.tup [.int (i : Nat), y]) := ⟨by show 2 ≤ sizeLine; decide, [.int i t, u2], .cons ⟨_, rfl⟩ (.cons rv2 .nil), hTup⟩
    have I1 := I.turnedNew (t' := tk) (ch := [e, it]) hk hf hT new
    refine ⟨.ref T, _, I1, rfl, ⟨T, y, rfl, I.hok.fresh hT, rfl, fun l hl => by rw [I.tuple_inj hl hqy]; exact hy⟩, ⟨he', hi'⟩, fun c hc' => ?_⟩
    have lt : c < s.heap.objs.size := by
      obtain ⟨old, g1⟩ := he
      obtain ⟨_, g2, _⟩ := hi
      have cc : c = e ∨ c = it := by simpa using hc'
      rcases cc with q | q
      · rw [q]; exact Heap.lt_size g1
      · rw [q]; exact Heap.lt_size g2
    rw [upd_ne (Nat.ne_of_lt (Nat.lt_of_lt_of_le lt hT))]
    exact (hf c hc').1
  done := by
    intro X hP hw hK hc i pins s σ H E I hf st hg
    subst hP hw hK
    obtain ⟨he, hi⟩ := st
    obtain ⟨ys, hqy, hl⟩ := hg
    obtain ⟨its, rv, pt, _⟩ := I.tuple hqy
    have hh : X.A.in1.handled = none := I.ok.hd hc
    have W := GoesN.enumFrom (elts := elts) (x1 := kk) (pos := tpos) 0 (Draws.tuple hh it b h2 its.toArray) e h1 (by simp [h1, Ne.symm h3]) (by simp) (prog := X.prog) (w := X.w) (A := X.A)
    have ee : i = its.toArray.size := by rw [List.size_toArray, ← rv.length]; exact hl
    subst ee
    exact W.stops s _ _ ⟨he, hi, pt⟩ fun h' tk hk htk => I.turnedL (t' := tk) (ch := [e, it]) hk hf
  self := fun A i s Q E st h => let ⟨⟨_, he⟩, _⟩ := st; wpAny_pyIter_enum he h
def iEnT (K : PySem.W.Frag) (ta : TA) : TI := fun σ H R => ta σ H fun vs H1 => ∃ (b : Addr) (ys : List V), vs = [.ref b] ∧ SqT K H1 b ys ∧ R (ItEt K b) H1
theorem pi_enT {X : Cx} {K : PySem.W.Frag} {e : Expr} {ta : TA} {p pos tpos : Pos} {elts : List Expr} {kk : Nat} (hg : Gl X "enumerate") (hm : X.mg "enumerate" = none) (ha : PA X [e] ta) (hK : X.K = K := by rfl) (hs : starEach [e] X.env = [(false, eval e X.env)] := by rfl) :
    PI X (.Tuple elts kk tpos) (.Call (.Name "enumerate" p) [e] [] pos) (iEnT K ta) := by
  subst hK
  refine ⟨fun pins s σ H R I h => Call_ (ld_blt I hg hm boot_enumerate (PyProof.Rows.callWith_type1 (thn (ha.run pos pins s σ H _ I h) fun us z ⟨vs, H1, I1, r1, q1⟩ => ?_) hs rfl))⟩
  obtain ⟨b, ys, ex, hqy, q⟩ := q1
  subst ex
  cases r1 with
  | cons r rr =>
    cases rr
    cases r
    obtain ⟨its, rv, pt, _⟩ := I1.tuple hqy
    obtain ⟨o2, ho2, _⟩ := id pt
    have hb : b < z.heap.objs.size := Heap.lt_size ho2
    refine enum_begin1 (begins_tuple b its.toArray) pt fun h' he hi hk => wpAny_pyIter_enum he ?_
    have I2 : L2.Inv X pins σ H1 { z with heap := h' } := I1.kept (t' := z.toks) hk
    refine ⟨z.heap.objs.size + 1, [z.heap.objs.size + 1, z.heap.objs.size], _, _, H1, rfl, I2, turn_enT (b := b) (e := z.heap.objs.size + 1) (it := z.heap.objs.size) (Nat.succ_ne_self _) (Nat.ne_of_lt hb) (Nat.ne_of_lt (Nat.lt_succ_of_lt hb)), ⟨⟨.none, he⟩, ⟨_, hi, rfl, rfl⟩⟩, fun c hc => ?_, q⟩
    have cc : c = z.heap.objs.size + 1 ∨ c = z.heap.objs.size := by simpa using hc
    have le : z.heap.objs.size ≤ c := by rcases cc with q | q <;> rw [q] <;> first | exact Nat.le_succ _ | exact Nat.le_refl _
    exact I1.fpOk le (I1.hok.fresh le)
theorem rd_ienT {K : PySem.W.Frag} {ta : TA} {σ : L2.St} {H : Hp} {R : It → Hp → Prop} (h : ta σ H fun vs H1 => ∃ (b : Addr) (ys : List V), vs = [.ref b] ∧ SqT K H1 b ys ∧ R (ItEt K b) H1) : iEnT K ta σ H R := h
theorem walk_enT {K : PySem.W.Frag} {b : Addr} {ys : List V} {n : Nat} (hn : n = ys.length) : Walk (ItEt K b) n (fun H => SqT K H b ys) (fun i H v H' => ∃ T y, v = .ref T ∧ H T = none ∧ H' = upd H T (.tup [.int (i : Nat), y]) ∧ ys[i]? = some y) := by
  subst hn
  refine ⟨fun i H hi q => ⟨ys, ys[i], q, List.getElem?_eq_getElem hi⟩, fun H q => ⟨ys, q, rfl⟩, fun i H v H' hi q y => ?_⟩
  obtain ⟨T, y, a1, a2, a3, a4⟩ := y
  exact ⟨T, y, a1, a2, a3, a4 ys q⟩
end Rg

/-! an own error over Exception, made by an own __init__ -/
namespace Rg
open PySem PySem.Spec PyProof.Rows L2
/-- what the written part says of such a class -/
structure OexE (K : PySem.W.Frag) (C : Addr) : Prop where
  cls : ∃ nm q N bs sn sub ab col dd k0 k1 k2 k3 k5, K.lookup C = some (excClassObj nm q C N bs PySem.ESX.exTail true sn sub ab col dd k0 k1 k2 k3 k5 "Exception.__new__")
  sa : PySem.W.findIn K (.ref C) "__setattr__" = some (some (.builtin "object.__setattr__"))
  exC : PySem.W.subIn K (.ref C) (.type "BaseException") = some true
  tyC : PySem.W.typeIn K (.ref C) = some (.type "type")
  kC : PySem.W.keepIn K (.ref C) = true
section
variable {X : Cx} {pins : List (Addr × Obj)} {σ : L2.St} {H : Hp} {s : Shared} {a C : Addr} {f : Str} {y : V} {u : Value}
/-- the error gets its dict: the heap that follows -/
theorem inv_dict {hp h' : Heap} {g : Array GenState} {dr : Drawn} {t tk : Nat} {os : OsState} {dx : Addr} (I : L2.Inv X pins σ H ⟨hp, g, dr, t, os⟩) (e : H a = some (exo a C none)) (ry : RelV y u) (k : ∀ b o, b ≠ a → hp.get? b = some o → h'.get? b = some o) (dn : hp.objs.size ≤ dx) (dne : dx ≠ a)
    (hx : h'.get? a = some { cls := .ref C, dict := some dx, data := .fields #[.ref tk, .none, .none, .none, .bool false, .none] }) (hn : h'.Ns1 dx (fun z => if z = f then some u else none)) (t' : Nat) :
    H dx = none ∧ L2.Inv X pins σ (upd (upd H dx (exd dx [(f, y)])) a (exo a C (some dx))) ⟨h', g, dr, t', os⟩ := by
  have nd : H dx = none := I.hok.fresh dn
  have old : ∀ {b : Addr} {o : Obj}, hp.get? b = some o → b ≠ dx := fun q => Nat.ne_of_lt (Nat.lt_of_lt_of_le (Heap.lt_size q) dn)
  have noa : ∀ {b : Addr}, H b = none → b ≠ a := fun n z => by rw [z, e] at n; cases n
  refine ⟨nd, I.un (t' := t') ?_ fun b o q => ?_⟩
  · exact
    { keep := fun b o q n _ _ => k b o (noa n) q
      slot := fun b o q n _ _ => ⟨o.slots, k b o (noa n) q⟩
      free := fun b o q n _ => (upd_ne (noa n)).trans ((upd_ne (old q)).trans n)
      there := fun b o q _ => if hb : b = a then ⟨_, hb ▸ hx⟩ else ⟨o, k b o hb q⟩
      tups := fun b xs q => (upd_ne (at_ne e q exo_tup)).trans ((upd_ne (ne_of_none q nd)).trans q)
      frzs := fun b o v q => (upd_ne (at_ne e q exo_frz)).trans ((upd_ne (ne_of_none q nd)).trans q)
      tbls := fun b ps q => ⟨#[], by rw [upd_ne (at_ne e q exo_tbl), upd_ne (ne_of_none q nd), q]; simp⟩ }
  · by_cases h1 : b = a
    · subst h1
      rw [upd_same] at q
      cases q
      exact exo_ok hx
    rw [upd_ne h1] at q
    by_cases h2 : b = dx
    · subst h2
      rw [upd_same] at q
      cases q
      exact exd_ok hn (relO_put (fs := []) ry fun _ => True.intro)
    rw [upd_ne h2] at q
    refine (I.hok b o q).stay (fun c v hc z => k c v ?_ z) (fun c hc => ?_) (fun c xs hc => ?_)
    · rcases hc with hc | hc
      · exact hc ▸ h1
      · exact at_ne e hc exo_own
    · exact (upd_ne (at_ne e hc exo_own)).trans ((upd_ne (ne_of_none hc nd)).trans hc)
    · exact (upd_ne (at_ne e hc exo_tup)).trans ((upd_ne (ne_of_none hc nd)).trans hc)
theorem est_new {A : Around} {Q : Unit → Shared → Prop} {E : Value → Shared → Prop} (T : OexE X.K C) (I : L2.Inv X pins σ H s) (e : H a = some (exo a C none)) (hno : PySem.W.findIn X.K (.ref C) f = some none) (ry : RelV y u)
    (h : ∀ dx s', H dx = none → dx ≠ a → L2.Inv X pins σ (upd (upd H dx (exd dx [(f, y)])) a (exo a C (some dx))) s' → Q () s') : wpAny (model X.prog X.w) A (setAttr (.ref a) f u) Q E s := by
  obtain ⟨nm, q, N, bs, sn, sub, ab, col, dd, k0, k1, k2, k3, k5, hC⟩ := T.cls
  have cd : PySem.W.clsIn X.K C = some { name := nm, bases := bs, mro := .ref C :: PySem.ESX.exTail, ns := N, qualname := q, hasDict := true, slotNames := sn, subclasses := sub, abstract := ab, collection := col, hasDel := false } := by unfold PySem.W.clsIn; rw [hC] <;> rfl
  obtain ⟨tk, ho⟩ := exo_at I.hok e
  obtain ⟨hp, g, d, t, os⟩ := s
  refine PySem.W.set_plain I.kIn (ox := { cls := .ref C, dict := none, data := .fields #[.ref tk, .none, .none, .none, .bool false, .none] }) (od := none) ⟨ho, rfl, rfl, trivial⟩ T.sa ?_
  refine PySem.ESX.osa_new I.kIn ho cd rfl rfl hno fun h' t' dx k dn dne hx hn => ?_
  obtain ⟨n1, J⟩ := inv_dict (t' := t') I e ry k dn dne hx hn
  exact h dx _ n1 dne J
theorem ein_ok {A : Around} {us : List Value} {Q : Value → Shared → Prop} {E : Value → Shared → Prop} (T : OexE X.K C) (I : L2.Inv X pins σ H s) (e : H a = some (exo a C none)) (hl : us.length ≤ sizeLine) (h : ∀ s', L2.Inv X pins σ H s' → Q .none s') :
    wpAny (model X.prog X.w) A (call (.builtin "Exception.__init__") (.ref a :: us)) Q E s := by
  obtain ⟨nm, q, N, bs, sn, sub, ab, col, dd, k0, k1, k2, k3, k5, hC⟩ := T.cls
  obtain ⟨tk, ho⟩ := exo_at I.hok e
  obtain ⟨hp, g, d, t, os⟩ := s
  refine wpAny_call (PySem.HandSPX.init_base F.excBase_Exception (fun _ => rfl) (I.kIn _ _ hC) ho hl fun h' t2 k hx => h _ ?_)
  have J := I.write (t' := t) (x := a) (e := a) (o := exo a C none) (e ▸ True.intro) (.inl rfl) k ⟨_, hx⟩ (exo_ok hx)
  have eu : upd H a (exo a C none) = H := funext fun b => if hb : b = a then by rw [hb, upd_same, e] else upd_ne hb
  rwa [eu] at J
end
/-- Exception.__init__(self, ..) -/
def tEnI (K : PySem.W.Frag) (ta : TA) : TE := fun σ H Q => ta σ H fun vs H1 => ∃ (a C : Addr) (ws : List V), vs = .ref a :: ws ∧ ws.length ≤ 1000 ∧ OexE K C ∧ H1 a = some (exo a C none) ∧ Q .non H1
/-- self.f = e, the first one -/
def tEst (K : PySem.W.Frag) (f : Str) (to te : TE) : TS := fun D σ H => te σ H fun y H1 => to σ H1 fun x H2 => ∃ a C : Addr, x = .ref a ∧ OexE K C ∧ PySem.W.findIn K (.ref C) f = some none ∧ H2 a = some (exo a C none) ∧ ∀ dx, H2 dx = none → dx ≠ a → D.nx σ (upd (upd H2 dx (exd dx [(f, y)])) a (exo a C (some dx)))
theorem typ_Exc : typeOf (.type "Exception") = pure (.type "type") := by kernel_rfl
section
variable {X : Cx} {o e : Expr} {es : List Expr} {to te : TE} {ta : TA} {f : Str} {p p' p1 p2 pos : Pos}
theorem pe_eninit {pl : Sem Bool} (hg : Gl X "Exception") (hm : X.mg "Exception" = none) (vE : PySem.W.findCls X.K (.type "Exception") (.type "type") "__init__" = some (.val (.builtin "Exception.__init__"))) (ha : PA X (e :: es) ta)
    (hc : eval (.Call (.Attribute (.Name "Exception" p1) "__init__" p2) (e :: es) [] pos) X.env = (do
      let ov ← eval (.Name "Exception" p1) X.env
      standAt p2.atName
      let (f, first) ← holding [ov] (getMethod ov "__init__" pl)
      callWith pos f first (backTo pos (starEach (e :: es) X.env)) (backToKw pos (keywordEach [] X.env))) := by rfl)
    (hst : starEach (e :: es) X.env = (false, eval e X.env) :: starEach es X.env := by rfl) (hpl : (backTo pos (starEach es X.env)).any (·.1) = false := by rfl) :
    PE X (.Call (.Attribute (.Name "Exception" p1) "__init__" p2) (e :: es) [] pos) (tEnI X.K ta) := by
  refine ⟨fun pins s σ H Q I h => PySem.W.methodCall_KW (ld_blt I hg hm PyProof.Rows.Boot.«Exception» ?_ (by decide) (by decide)) hc⟩
  obtain ⟨m, fr⟩ := I.fr
  refine PySem.W.method_type fr I.ok.mod.kin typ_Exc (by decide +kernel) vE (by decide +kernel) ?_
  show wpAny _ _ (callWith pos (Value.builtin "Exception.__init__") [] (backTo pos (starEach (e :: es) X.env)) []) _ _ _
  refine PyProof.Rows.callWith_method1 (thn (ha.run pos pins _ σ H _ (I.tok _) h) fun us z ⟨vs, H1, I1, r1, a, C, ws, ev, hl, T, ea, q⟩ => ?_) hst hpl
  subst ev
  cases r1 with
  | cons ra rr =>
    cases ra
    exact ein_ok T I1 ea (by rw [← Paired.length rr, sizeLine_eq]; omega) fun s' J => ⟨.non, H1, J, rfl, q⟩
theorem ps_est (ho : PE X o to) (he : PE X e te) (hs : swapsWith e (some (.Attribute o f p')) pos.line X.env = pure false := by rfl) : PS X (.Assign [.Attribute o f p'] e pos) (tEst X.K f to te) := by
  refine ⟨fun pins s σ H D I h => plainObj_wpAny_Assign_Attribute (thn (he.run pins s σ H _ I h) fun v z ⟨y, H1, I1, r1, q1⟩ => thn (ho.run pins z σ H1 _ I1 q1) fun u z2 ⟨x, H2, I2, r2, a, C, ex, T, hno, ea, q⟩ => ?_) hs⟩
  subst ex
  cases r2
  exact est_new T I2 ea hno r1 fun dx s' n ne J => ⟨σ, _, J, q dx n ne⟩
/-- what the error's __init__ does -/
def spFE (K : PySem.W.Frag) : Sp := fun vs H Q _ => ∃ (a C : Addr) (v : V), vs = [.ref a, v] ∧ OexE K C ∧ PySem.W.findIn K (.ref C) "cause" = some none ∧ H a = some (exo a C none) ∧
  ∀ d, H d = none → d ≠ a → Q .non (upd (upd H d (exd d [("cause", v)])) a (exo a C (some d)))
/-- Fault(e): an error with its field -/
theorem pmk_fault {x : Str} {C fI : Addr} {k : Nat} {fd : FuncData} {ps : List Str} (T : OexE X.K C) (hw : PySem.W.findIn X.K (.ref C) "cause" = some none) (iC : PySem.W.findIn X.K (.ref C) "__init__" = some (some (.ref fI))) (tI : PySem.W.typeIn X.K (.ref fI) = some (.type "function"))
    (F1 : FnOk X.prog X.w X.K X.mg X.base CX0 k fI fd ps (spFE X.K)) (hr : Room (k + 1) X.A) (hb : Binds X.K fd ps []) (hg : Gl X x) (hm : X.mg x = some (.ref C)) (ha : PE X e te)
    (hdb : (x == ("__debug__" : Str)) = false := by decide) (hst : starEach [e] X.env = (false, eval e X.env) :: starEach [] X.env := by rfl) (hpl : (backTo pos (starEach [] X.env)).any (·.1) = false := by rfl) :
    L2N.PMk X (.Call (.Name x p) [e] [] pos) (fun σ H Q => te σ H fun v H1 => ∀ d, H1 d = none → Q (.ref C) (some d) (upd H1 d (.xd [("cause", v)]))) := by
  intro pins s σ H Q I h
  obtain ⟨nm, q, N, bs, sn, sub, ab, col, dd, k0, k1, k2, k3, k5, hC⟩ := T.cls
  refine wpAny_Call_Name_kw (ld_glob I hg hm (PySem.W.callWith_K (h₀ := X.base) I.ok.mod.kin T.kC (thn ((pa_cons ha pa_nil hst).run pos pins s σ H (fun vs H1 => ∃ v, vs = [v] ∧ ∀ d, H1 d = none → Q (.ref C) (some d) (upd H1 d (.xd [("cause", v)]))) I ?_) fun us z ⟨vs, H1, I1, r1, q1⟩ => ⟨I1.kIn, ?_⟩) hst hpl) hdb)
  · have : te σ H (fun v H1 => ∀ d, H1 d = none → Q (.ref C) (some d) (upd H1 d (.xd [("cause", v)]))) := h
    show te σ H fun v H1 => ∃ v', [v] = [v'] ∧ ∀ d, H1 d = none → Q (.ref C) (some d) (upd H1 d (.xd [("cause", v')]))
    have e1 : (fun (v : V) (H1 : Hp) => ∃ v', [v] = [v'] ∧ ∀ d, H1 d = none → Q (.ref C) (some d) (upd H1 d (.xd [("cause", v')]))) = fun v H1 => ∀ d, H1 d = none → Q (.ref C) (some d) (upd H1 d (.xd [("cause", v)])) := by
      funext v H1
      apply propext
      constructor
      · rintro ⟨v', ev, q⟩
        cases ev
        exact q
      · exact fun q => ⟨v, rfl, q⟩
    rw [e1]
    exact this
  obtain ⟨v, rfl, q1⟩ := q1
  show wpAny _ _ (call (.ref C) us) _ _ _
  obtain ⟨hp, g, dr, tk, os⟩ := z
  have sz : hp.objs.size ≤ hp.objs.size + 1 := Nat.le_succ _
  have n1 : H1 (hp.objs.size + 1) = none := I1.hok.fresh sz
  have kk : ∀ b o, hp.get? b = some o → ((hp.push (PySem.W.kdv_tup us)).push (PySem.HandSPX.excO C hp.objs.size)).get? b = some o := fun b o e => Heap.get?_push_of_some _ (Heap.get?_push_of_some _ e)
  have gt : ((hp.push (PySem.W.kdv_tup us)).push (PySem.HandSPX.excO C hp.objs.size)).get? (hp.objs.size + 1) = some (PySem.HandSPX.excO C hp.objs.size) := by heap_get
  have I2 : L2.Inv X pins σ (upd H1 (hp.objs.size + 1) (exo (hp.objs.size + 1) C none)) ⟨(hp.push (PySem.W.kdv_tup us)).push (PySem.HandSPX.excO C hp.objs.size), g, dr, tk, os⟩ := I1.laid (t' := tk) kk sz (exo_ok gt)
  have r2 : Vals [V.ref (hp.objs.size + 1), v] (Value.ref (hp.objs.size + 1) :: us) := .cons rfl r1
  have sp1 : spFE X.K [.ref (hp.objs.size + 1), v] (upd H1 (hp.objs.size + 1) (exo (hp.objs.size + 1) C none)) (fun w H2 => w = .non ∧ ∃ d, H1 d = none ∧ d ≠ hp.objs.size + 1 ∧ H2 = upd (upd (upd H1 (hp.objs.size + 1) (exo (hp.objs.size + 1) C none)) d (exd d [("cause", v)])) (hp.objs.size + 1) (exo (hp.objs.size + 1) C (some d))) (fun _ _ _ => False) :=
    ⟨_, C, v, rfl, T, hw, upd_same, fun d hd ne => ⟨rfl, d, by rw [upd_ne ne] at hd; exact hd, ne, rfl⟩⟩
  have hl : (Value.ref (hp.objs.size + 1) :: us).length = ps.length := r2.length.symm.trans (F1.len _ _ _ _ sp1)
  have lu : us.length ≤ sizeLine := by rw [← Paired.length r1, sizeLine_eq]; show 1 ≤ _; decide
  have b0 := hb ⟨(hp.push (PySem.W.kdv_tup us)).push (PySem.HandSPX.excO C hp.objs.size), g, dr, tk, os⟩ (Value.ref (hp.objs.size + 1) :: us) I2.kIn (by rw [List.append_nil]; exact hl)
  rw [List.append_nil] at b0
  refine wpAny_call (PySem.HandSPX.call_own F.excBase_Exception (fun _ => rfl) (I1.kIn _ _ hC) (PySem.W.looks_findIn I1.kIn iC) (fun self => PySem.W.bind_fn I1.kIn self tI) lu (codeAny_mono (F1.run _ X.stack _ _ ⟨Value.ref (hp.objs.size + 1) :: us, []⟩ (Value.ref (hp.objs.size + 1) :: us) _ _ (fun _ _ _ => False) (hr.make C us []) (I2.env0.make C us []) b0 r2 sp1) fun r s' hq => ?_))
  match r, hq with
  | .error er, hq => exact pass0 pins σ _ _ er s' I2 hq
  | .ok (.ret w), hq =>
    obtain ⟨v', H2, os2, bare2, un2, hok2, rv, ev, d, hd1, hne, e2⟩ := hq
    subst ev
    obtain ⟨h2, g2, d2, t2, os'⟩ := s'
    have ea : H2 (hp.objs.size + 1) = some (exo (hp.objs.size + 1) C (some d)) := by rw [e2, upd_same]
    have ed : H2 d = some (exd d [("cause", v)]) := by rw [e2, upd_ne hne, upd_same]
    obtain ⟨t0, G, J, kG, ge, hoe, na⟩ := mk_end0 (d2 := d2) (t2 := t2) I1 sz kk un2 hok2 os2 bare2 ea ed hd1
    refine ⟨rv, hp.objs.size + 1, _, _, ⟨G, g2, d2, t2, os'⟩, _, .ref C, some d, rfl, J, kG, ge, hoe, ⟨rfl, rfl, fun z hz => by cases hz; rfl⟩, rfl, rfl, na, rfl, bare2, raises_own T.exC T.tyC, ?_⟩
    have eH : upd (del H2 (hp.objs.size + 1)) d (.xd [("cause", v)]) = upd H1 d (.xd [("cause", v)]) := by
      funext b
      by_cases h1 : b = d
      · rw [h1, upd_same, upd_same]
      · rw [upd_ne h1, upd_ne h1]
        by_cases h2 : b = hp.objs.size + 1
        · rw [h2, del_same, n1]
        · rw [del_ne h2, e2, upd_ne h2, upd_ne h1, upd_ne h2]
    rw [eH]
    exact q1 d hd1
  | .ok .next, hq => exact False.elim hq
  | .ok .brk, hq => exact False.elim hq
  | .ok .cont, hq => exact False.elim hq
end
/-- as Fun.okX, where the error's context is told too -/
theorem Fun.okN {P : Program} {w : World} {K : PySem.W.Frag} {mg : Str → Option Value} {base : Heap} {x qual : Str} {st : Stmt} {f : Addr} {fd : FuncData} {N ps : List Str} {k : Nat} {sp : Sp} (F : L2.Fun K x qual st f fd) (S : FnScope N ps (defScope st)) (len : ∀ vs H Q E, sp vs H Q E → vs.length = ps.length)
    (body : ∀ (cdv : Value) (A : Around) (outer : List Env) (s : Shared) (H : Hp) (vs : List V) (Q : VK) (E : XK), Room k (A.deeper (envOfC qual (defScope st) s.heap.objs.size f cdv)) → sp vs H Q E →
      ∃ t, PSs (cxOf (L2N.CX P w) P w K mg base N qual (defScope st) f cdv A outer s H E) (defBody st) t ∧ t { nx := fun _ H' => Q .non H', rt := Q } (L2.start N vs) H) : FnOk P w K mg base (L2N.CX P w) (k + 1) f fd ps sp := by
  obtain ⟨oc, od, kV, doc, pm, an, cdv, ct, osl, rfl, lk, hcd⟩ := F.ex
  exact fn_of lk hcd S len fun A outer s H vs Q E hr h => body cdv A outer s H vs Q E hr h
end Rg

/-! a deed while it is done: the mirror, and the object that bears it -/
namespace Rg
open PySem PySem.Spec L2
/-- the state of a run -/
structure Rn where
  ring : Int
  a : Int
  pt : List Pt
  me : List (List Wd)
  wh : Option (Int × Int)
  ca : List (Int × Option (Int × Int))
  st : List (Int × Int × Int × Int)
  to : List (Int × Int × Int × Str)
def whD : Option (Int × Int) → PyData
  | none => .none
  | some (g, p) => .tuple [.int g, .int p]
def caD (c : Int × Option (Int × Int)) : PyData := .tuple [.int c.1, whD c.2]
def stD (c : Int × Int × Int × Int) : PyData := .tuple [.int c.1, .int c.2.1, .int c.2.2.1, .int c.2.2.2]
def toD (c : Int × Int × Int × Str) : PyData := .tuple [.int c.1, .int c.2.1, .int c.2.2.1, .str c.2.2.2]
def mx (i j : Int) : Int := if j > i then j else i
def sgAt (xs : List Sg) (g : Int) : Sg := xs.getD g.toNat dSg
def Rn.ptr (s : Rn) (p : Int) : Pt := s.pt.getD p.toNat none
def Rn.mem (s : Rn) (g : Int) : List Wd := s.me.getD g.toNat []
/-- where a pointer leads to -/
def spotR (s : Rn) (p w : Int) : Except Str (Int × Int × Int) := match s.ptr p with
  | none => .error "pointer"
  | some (r, g, pl) => if 0 ≤ pl + w ∧ pl + w < ((s.mem g).length : Int) then .ok (mx s.ring r, g, pl + w) else .error "bounds"
def Rn.touch (s : Rn) (e g p : Int) (w : Str) : Rn := { s with to := s.to ++ [(e, g, p, w)] }
def Rn.wordAt (s : Rn) (g p : Int) : Wd := (s.mem g).getD p.toNat (.num 0)
def Rn.put (s : Rn) (g p : Int) (x : Wd) : Rn := { s with me := s.me.set g.toNat ((s.mem g).set p.toNat x) }
def Rn.ptrSet (s : Rn) (q : Int) (x : Pt) : Rn := { s with pt := s.pt.set q.toNat x }
def readR (xs : List Sg) (s : Rn) (p w : Int) : Except Str (Wd × Int × Int × Rn) := match spotR s p w with
  | .error c => .error c
  | .ok (e, g, pl) => if mRead (sgAt xs g) e = true then .ok (s.wordAt g pl, e, g, s.touch e g pl "r") else .error "read"
def writeR (xs : List Sg) (s : Rn) (p w : Int) (x : Wd) : Rn × Option Str := match spotR s p w with
  | .error c => (s, some c)
  | .ok (e, g, pl) => if mWrite (sgAt xs g) e = true then ((s.touch e g pl "w").put g pl x, none) else (s, some "write")
def raisedR (r : Int) : Pt → Pt
  | none => none
  | some (o, g, p) => some (mx o r, g, p)
def Rn.enter (s : Rn) (r : Int) (w : Option (Int × Int)) : Rn := { s with ring := r, wh := w, pt := s.pt.map (raisedR r) }
def enteredR (x : Sg) (pl e : Int) : Except Str Int :=
  if has 120 x.ri = false then .error "run"
  else if ¬ (0 ≤ pl ∧ pl < (x.rs.length : Int)) then .error "entry"
  else if e ≤ x.r2 then .ok (mx e x.r1)
  else if e > x.r3 then .error "call"
  else if pl ≥ x.ga then .error "gate"
  else .ok x.r2
/-! ### the twelve rows -/
def rSet (b : Int) (s : Rn) (n : Int) : Rn × Option Str := ({ s with a := n % b }, none)
def rAdd (b : Int) (s : Rn) (n : Int) : Rn × Option Str := ({ s with a := (s.a + n) % b }, none)
def rLoad (xs : List Sg) (s : Rn) (p w : Int) : Rn × Option Str := match readR xs s p w with
  | .error c => (s, some c)
  | .ok (.num n, _, _, s') => ({ s' with a := n }, none)
  | .ok (.ptr .., _, _, s') => (s', some "kind")
def rStore (xs : List Sg) (s : Rn) (p w : Int) : Rn × Option Str := writeR xs s p w (.num s.a)
def rFetch (xs : List Sg) (s : Rn) (q p w : Int) : Rn × Option Str := match readR xs s p w with
  | .error c => (s, some c)
  | .ok (.num _, _, _, s') => (s', some "kind")
  | .ok (.ptr r g pl, e, n, s') => (s'.ptrSet q (some (mx (mx r e) (sgAt xs n).r1, g, pl)), none)
def rKeep (xs : List Sg) (s : Rn) (q p w : Int) : Rn × Option Str := match s.ptr q with
  | none => (s, some "pointer")
  | some (r, g, pl) => writeR xs s p w (.ptr r g pl)
def rAim (s : Rn) (q g w : Int) : Rn × Option Str := if w < 0 then (s, some "bounds") else (s.ptrSet q (some (s.ring, g, w)), none)
def rMove (s : Rn) (q p n : Int) : Rn × Option Str := match s.ptr p with
  | none => (s, some "pointer")
  | some (r, g, pl) => if pl + n < 0 then (s, some "bounds") else (s.ptrSet q (some (r, g, pl + n)), none)
def rGo (s : Rn) (j : Int) : Rn × Option Str := match s.wh with
  | none => (s, some "hand")
  | some (g, _) => ({ s with wh := some (g, j) }, none)
def rZero (s : Rn) (j : Int) : Rn × Option Str := match s.wh with
  | none => (s, some "hand")
  | some (g, _) => if s.a = 0 then ({ s with wh := some (g, j) }, none) else (s, none)
def rCall (xs : List Sg) (s : Rn) (p : Int) : Rn × Option Str := match s.ptr p with
  | none => (s, some "pointer")
  | some (r, g, pl) => match enteredR (sgAt xs g) pl (mx s.ring r) with
    | .error c => (s, some c)
    | .ok e => if 8 ≤ s.ca.length then (s, some "deep") else (({ s with ca := s.ca ++ [(s.ring, s.wh)] } : Rn).enter e (some (g, pl)), none)
def rRet (s : Rn) : Rn × Option Str := match s.wh with
  | none => (s, some "hand")
  | some _ => match s.ca.getLast? with
    | none => (s, some "hand")
    | some (r, w) => (({ s with ca := s.ca.dropLast } : Rn).enter r w, none)

def rF (v0 v1 v2 v3 v4 v5 v6 v7 v8 v9 : V) : List (Str × V) := [("machine", v0), ("hand", v1), ("ring", v2), ("a", v3), ("pointers", v4), ("memory", v5), ("where", v6), ("calls", v7), ("steps", v8), ("touches", v9)]
theorem rF_machine {v0 v1 v2 v3 v4 v5 v6 v7 v8 v9 : V} : (rF v0 v1 v2 v3 v4 v5 v6 v7 v8 v9).lookup ("machine" : Str) = some v0 := by unfold rF; rw [lookup_put, if_pos rfl]
theorem put_machine {v0 v1 v2 v3 v4 v5 v6 v7 v8 v9 y : V} : putF "machine" y (rF v0 v1 v2 v3 v4 v5 v6 v7 v8 v9) = rF y v1 v2 v3 v4 v5 v6 v7 v8 v9 := by unfold rF putF; rw [if_pos rfl]
theorem rF_hand {v0 v1 v2 v3 v4 v5 v6 v7 v8 v9 : V} : (rF v0 v1 v2 v3 v4 v5 v6 v7 v8 v9).lookup ("hand" : Str) = some v1 := by unfold rF; rw [lookup_put, if_neg (by decide +kernel)]; rw [lookup_put, if_pos rfl]
theorem put_hand {v0 v1 v2 v3 v4 v5 v6 v7 v8 v9 y : V} : putF "hand" y (rF v0 v1 v2 v3 v4 v5 v6 v7 v8 v9) = rF v0 y v2 v3 v4 v5 v6 v7 v8 v9 := by unfold rF putF; rw [if_neg (by decide +kernel)]; unfold putF; rw [if_pos rfl]
theorem rF_ring {v0 v1 v2 v3 v4 v5 v6 v7 v8 v9 : V} : (rF v0 v1 v2 v3 v4 v5 v6 v7 v8 v9).lookup ("ring" : Str) = some v2 := by unfold rF; rw [lookup_put, if_neg (by decide +kernel)]; rw [lookup_put, if_neg (by decide +kernel)]; rw [lookup_put, if_pos rfl]
theorem put_ring {v0 v1 v2 v3 v4 v5 v6 v7 v8 v9 y : V} : putF "ring" y (rF v0 v1 v2 v3 v4 v5 v6 v7 v8 v9) = rF v0 v1 y v3 v4 v5 v6 v7 v8 v9 := by unfold rF putF; rw [if_neg (by decide +kernel)]; unfold putF; rw [if_neg (by decide +kernel)]; unfold putF; rw [if_pos rfl]
theorem rF_a {v0 v1 v2 v3 v4 v5 v6 v7 v8 v9 : V} : (rF v0 v1 v2 v3 v4 v5 v6 v7 v8 v9).lookup ("a" : Str) = some v3 := by unfold rF; rw [lookup_put, if_neg (by decide +kernel)]; rw [lookup_put, if_neg (by decide +kernel)]; rw [lookup_put, if_neg (by decide +kernel)]; rw [lookup_put, if_pos rfl]
theorem put_a {v0 v1 v2 v3 v4 v5 v6 v7 v8 v9 y : V} : putF "a" y (rF v0 v1 v2 v3 v4 v5 v6 v7 v8 v9) = rF v0 v1 v2 y v4 v5 v6 v7 v8 v9 := by unfold rF putF; rw [if_neg (by decide +kernel)]; unfold putF; rw [if_neg (by decide +kernel)]; unfold putF; rw [if_neg (by decide +kernel)]; unfold putF; rw [if_pos rfl]
theorem rF_pointers {v0 v1 v2 v3 v4 v5 v6 v7 v8 v9 : V} : (rF v0 v1 v2 v3 v4 v5 v6 v7 v8 v9).lookup ("pointers" : Str) = some v4 := by unfold rF; rw [lookup_put, if_neg (by decide +kernel)]; rw [lookup_put, if_neg (by decide +kernel)]; rw [lookup_put, if_neg (by decide +kernel)]; rw [lookup_put, if_neg (by decide +kernel)]; rw [lookup_put, if_pos rfl]
theorem put_pointers {v0 v1 v2 v3 v4 v5 v6 v7 v8 v9 y : V} : putF "pointers" y (rF v0 v1 v2 v3 v4 v5 v6 v7 v8 v9) = rF v0 v1 v2 v3 y v5 v6 v7 v8 v9 := by unfold rF putF; rw [if_neg (by decide +kernel)]; unfold putF; rw [if_neg (by decide +kernel)]; unfold putF; rw [if_neg (by decide +kernel)]; unfold putF; rw [if_neg (by decide +kernel)]; unfold putF; rw [if_pos rfl]
theorem rF_memory {v0 v1 v2 v3 v4 v5 v6 v7 v8 v9 : V} : (rF v0 v1 v2 v3 v4 v5 v6 v7 v8 v9).lookup ("memory" : Str) = some v5 := by unfold rF; rw [lookup_put, if_neg (by decide +kernel)]; rw [lookup_put, if_neg (by decide +kernel)]; rw [lookup_put, if_neg (by decide +kernel)]; rw [lookup_put, if_neg (by decide +kernel)]; rw [lookup_put, if_neg (by decide +kernel)]; rw [lookup_put, if_pos rfl]
theorem put_memory {v0 v1 v2 v3 v4 v5 v6 v7 v8 v9 y : V} : putF "memory" y (rF v0 v1 v2 v3 v4 v5 v6 v7 v8 v9) = rF v0 v1 v2 v3 v4 y v6 v7 v8 v9 := by unfold rF putF; rw [if_neg (by decide +kernel)]; unfold putF; rw [if_neg (by decide +kernel)]; unfold putF; rw [if_neg (by decide +kernel)]; unfold putF; rw [if_neg (by decide +kernel)]; unfold putF; rw [if_neg (by decide +kernel)]; unfold putF; rw [if_pos rfl]
theorem rF_where {v0 v1 v2 v3 v4 v5 v6 v7 v8 v9 : V} : (rF v0 v1 v2 v3 v4 v5 v6 v7 v8 v9).lookup ("where" : Str) = some v6 := by unfold rF; rw [lookup_put, if_neg (by decide +kernel)]; rw [lookup_put, if_neg (by decide +kernel)]; rw [lookup_put, if_neg (by decide +kernel)]; rw [lookup_put, if_neg (by decide +kernel)]; rw [lookup_put, if_neg (by decide +kernel)]; rw [lookup_put, if_neg (by decide +kernel)]; rw [lookup_put, if_pos rfl]
theorem put_where {v0 v1 v2 v3 v4 v5 v6 v7 v8 v9 y : V} : putF "where" y (rF v0 v1 v2 v3 v4 v5 v6 v7 v8 v9) = rF v0 v1 v2 v3 v4 v5 y v7 v8 v9 := by unfold rF putF; rw [if_neg (by decide +kernel)]; unfold putF; rw [if_neg (by decide +kernel)]; unfold putF; rw [if_neg (by decide +kernel)]; unfold putF; rw [if_neg (by decide +kernel)]; unfold putF; rw [if_neg (by decide +kernel)]; unfold putF; rw [if_neg (by decide +kernel)]; unfold putF; rw [if_pos rfl]
theorem rF_calls {v0 v1 v2 v3 v4 v5 v6 v7 v8 v9 : V} : (rF v0 v1 v2 v3 v4 v5 v6 v7 v8 v9).lookup ("calls" : Str) = some v7 := by unfold rF; rw [lookup_put, if_neg (by decide +kernel)]; rw [lookup_put, if_neg (by decide +kernel)]; rw [lookup_put, if_neg (by decide +kernel)]; rw [lookup_put, if_neg (by decide +kernel)]; rw [lookup_put, if_neg (by decide +kernel)]; rw [lookup_put, if_neg (by decide +kernel)]; rw [lookup_put, if_neg (by decide +kernel)]; rw [lookup_put, if_pos rfl]
theorem put_calls {v0 v1 v2 v3 v4 v5 v6 v7 v8 v9 y : V} : putF "calls" y (rF v0 v1 v2 v3 v4 v5 v6 v7 v8 v9) = rF v0 v1 v2 v3 v4 v5 v6 y v8 v9 := by unfold rF putF; rw [if_neg (by decide +kernel)]; unfold putF; rw [if_neg (by decide +kernel)]; unfold putF; rw [if_neg (by decide +kernel)]; unfold putF; rw [if_neg (by decide +kernel)]; unfold putF; rw [if_neg (by decide +kernel)]; unfold putF; rw [if_neg (by decide +kernel)]; unfold putF; rw [if_neg (by decide +kernel)]; unfold putF; rw [if_pos rfl]
theorem rF_steps {v0 v1 v2 v3 v4 v5 v6 v7 v8 v9 : V} : (rF v0 v1 v2 v3 v4 v5 v6 v7 v8 v9).lookup ("steps" : Str) = some v8 := by unfold rF; rw [lookup_put, if_neg (by decide +kernel)]; rw [lookup_put, if_neg (by decide +kernel)]; rw [lookup_put, if_neg (by decide +kernel)]; rw [lookup_put, if_neg (by decide +kernel)]; rw [lookup_put, if_neg (by decide +kernel)]; rw [lookup_put, if_neg (by decide +kernel)]; rw [lookup_put, if_neg (by decide +kernel)]; rw [lookup_put, if_neg (by decide +kernel)]; rw [lookup_put, if_pos rfl]
theorem put_steps {v0 v1 v2 v3 v4 v5 v6 v7 v8 v9 y : V} : putF "steps" y (rF v0 v1 v2 v3 v4 v5 v6 v7 v8 v9) = rF v0 v1 v2 v3 v4 v5 v6 v7 y v9 := by unfold rF putF; rw [if_neg (by decide +kernel)]; unfold putF; rw [if_neg (by decide +kernel)]; unfold putF; rw [if_neg (by decide +kernel)]; unfold putF; rw [if_neg (by decide +kernel)]; unfold putF; rw [if_neg (by decide +kernel)]; unfold putF; rw [if_neg (by decide +kernel)]; unfold putF; rw [if_neg (by decide +kernel)]; unfold putF; rw [if_neg (by decide +kernel)]; unfold putF; rw [if_pos rfl]
theorem rF_touches {v0 v1 v2 v3 v4 v5 v6 v7 v8 v9 : V} : (rF v0 v1 v2 v3 v4 v5 v6 v7 v8 v9).lookup ("touches" : Str) = some v9 := by unfold rF; rw [lookup_put, if_neg (by decide +kernel)]; rw [lookup_put, if_neg (by decide +kernel)]; rw [lookup_put, if_neg (by decide +kernel)]; rw [lookup_put, if_neg (by decide +kernel)]; rw [lookup_put, if_neg (by decide +kernel)]; rw [lookup_put, if_neg (by decide +kernel)]; rw [lookup_put, if_neg (by decide +kernel)]; rw [lookup_put, if_neg (by decide +kernel)]; rw [lookup_put, if_neg (by decide +kernel)]; rw [lookup_put, if_pos rfl]
theorem put_touches {v0 v1 v2 v3 v4 v5 v6 v7 v8 v9 y : V} : putF "touches" y (rF v0 v1 v2 v3 v4 v5 v6 v7 v8 v9) = rF v0 v1 v2 v3 v4 v5 v6 v7 v8 y := by unfold rF putF; rw [if_neg (by decide +kernel)]; unfold putF; rw [if_neg (by decide +kernel)]; unfold putF; rw [if_neg (by decide +kernel)]; unfold putF; rw [if_neg (by decide +kernel)]; unfold putF; rw [if_neg (by decide +kernel)]; unfold putF; rw [if_neg (by decide +kernel)]; unfold putF; rw [if_neg (by decide +kernel)]; unfold putF; rw [if_neg (by decide +kernel)]; unfold putF; rw [if_neg (by decide +kernel)]; unfold putF; rw [if_pos rfl]
theorem rF_no_stand_now {v0 v1 v2 v3 v4 v5 v6 v7 v8 v9 : V} : (rF v0 v1 v2 v3 v4 v5 v6 v7 v8 v9).lookup ("stand_now" : Str) = none := by unfold rF; rw [lookup_put, if_neg (by decide +kernel)]; rw [lookup_put, if_neg (by decide +kernel)]; rw [lookup_put, if_neg (by decide +kernel)]; rw [lookup_put, if_neg (by decide +kernel)]; rw [lookup_put, if_neg (by decide +kernel)]; rw [lookup_put, if_neg (by decide +kernel)]; rw [lookup_put, if_neg (by decide +kernel)]; rw [lookup_put, if_neg (by decide +kernel)]; rw [lookup_put, if_neg (by decide +kernel)]; rw [lookup_put, if_neg (by decide +kernel)]; rfl
theorem rF_no_forget {v0 v1 v2 v3 v4 v5 v6 v7 v8 v9 : V} : (rF v0 v1 v2 v3 v4 v5 v6 v7 v8 v9).lookup ("forget" : Str) = none := by unfold rF; rw [lookup_put, if_neg (by decide +kernel)]; rw [lookup_put, if_neg (by decide +kernel)]; rw [lookup_put, if_neg (by decide +kernel)]; rw [lookup_put, if_neg (by decide +kernel)]; rw [lookup_put, if_neg (by decide +kernel)]; rw [lookup_put, if_neg (by decide +kernel)]; rw [lookup_put, if_neg (by decide +kernel)]; rw [lookup_put, if_neg (by decide +kernel)]; rw [lookup_put, if_neg (by decide +kernel)]; rw [lookup_put, if_neg (by decide +kernel)]; rfl
theorem rF_no_pointer {v0 v1 v2 v3 v4 v5 v6 v7 v8 v9 : V} : (rF v0 v1 v2 v3 v4 v5 v6 v7 v8 v9).lookup ("pointer" : Str) = none := by unfold rF; rw [lookup_put, if_neg (by decide +kernel)]; rw [lookup_put, if_neg (by decide +kernel)]; rw [lookup_put, if_neg (by decide +kernel)]; rw [lookup_put, if_neg (by decide +kernel)]; rw [lookup_put, if_neg (by decide +kernel)]; rw [lookup_put, if_neg (by decide +kernel)]; rw [lookup_put, if_neg (by decide +kernel)]; rw [lookup_put, if_neg (by decide +kernel)]; rw [lookup_put, if_neg (by decide +kernel)]; rw [lookup_put, if_neg (by decide +kernel)]; rfl
theorem rF_no_spot {v0 v1 v2 v3 v4 v5 v6 v7 v8 v9 : V} : (rF v0 v1 v2 v3 v4 v5 v6 v7 v8 v9).lookup ("spot" : Str) = none := by unfold rF; rw [lookup_put, if_neg (by decide +kernel)]; rw [lookup_put, if_neg (by decide +kernel)]; rw [lookup_put, if_neg (by decide +kernel)]; rw [lookup_put, if_neg (by decide +kernel)]; rw [lookup_put, if_neg (by decide +kernel)]; rw [lookup_put, if_neg (by decide +kernel)]; rw [lookup_put, if_neg (by decide +kernel)]; rw [lookup_put, if_neg (by decide +kernel)]; rw [lookup_put, if_neg (by decide +kernel)]; rw [lookup_put, if_neg (by decide +kernel)]; rfl
theorem rF_no_read {v0 v1 v2 v3 v4 v5 v6 v7 v8 v9 : V} : (rF v0 v1 v2 v3 v4 v5 v6 v7 v8 v9).lookup ("read" : Str) = none := by unfold rF; rw [lookup_put, if_neg (by decide +kernel)]; rw [lookup_put, if_neg (by decide +kernel)]; rw [lookup_put, if_neg (by decide +kernel)]; rw [lookup_put, if_neg (by decide +kernel)]; rw [lookup_put, if_neg (by decide +kernel)]; rw [lookup_put, if_neg (by decide +kernel)]; rw [lookup_put, if_neg (by decide +kernel)]; rw [lookup_put, if_neg (by decide +kernel)]; rw [lookup_put, if_neg (by decide +kernel)]; rw [lookup_put, if_neg (by decide +kernel)]; rfl
theorem rF_no_write {v0 v1 v2 v3 v4 v5 v6 v7 v8 v9 : V} : (rF v0 v1 v2 v3 v4 v5 v6 v7 v8 v9).lookup ("write" : Str) = none := by unfold rF; rw [lookup_put, if_neg (by decide +kernel)]; rw [lookup_put, if_neg (by decide +kernel)]; rw [lookup_put, if_neg (by decide +kernel)]; rw [lookup_put, if_neg (by decide +kernel)]; rw [lookup_put, if_neg (by decide +kernel)]; rw [lookup_put, if_neg (by decide +kernel)]; rw [lookup_put, if_neg (by decide +kernel)]; rw [lookup_put, if_neg (by decide +kernel)]; rw [lookup_put, if_neg (by decide +kernel)]; rw [lookup_put, if_neg (by decide +kernel)]; rfl
theorem rF_no_jump {v0 v1 v2 v3 v4 v5 v6 v7 v8 v9 : V} : (rF v0 v1 v2 v3 v4 v5 v6 v7 v8 v9).lookup ("jump" : Str) = none := by unfold rF; rw [lookup_put, if_neg (by decide +kernel)]; rw [lookup_put, if_neg (by decide +kernel)]; rw [lookup_put, if_neg (by decide +kernel)]; rw [lookup_put, if_neg (by decide +kernel)]; rw [lookup_put, if_neg (by decide +kernel)]; rw [lookup_put, if_neg (by decide +kernel)]; rw [lookup_put, if_neg (by decide +kernel)]; rw [lookup_put, if_neg (by decide +kernel)]; rw [lookup_put, if_neg (by decide +kernel)]; rw [lookup_put, if_neg (by decide +kernel)]; rfl
theorem rF_no_enter {v0 v1 v2 v3 v4 v5 v6 v7 v8 v9 : V} : (rF v0 v1 v2 v3 v4 v5 v6 v7 v8 v9).lookup ("enter" : Str) = none := by unfold rF; rw [lookup_put, if_neg (by decide +kernel)]; rw [lookup_put, if_neg (by decide +kernel)]; rw [lookup_put, if_neg (by decide +kernel)]; rw [lookup_put, if_neg (by decide +kernel)]; rw [lookup_put, if_neg (by decide +kernel)]; rw [lookup_put, if_neg (by decide +kernel)]; rw [lookup_put, if_neg (by decide +kernel)]; rw [lookup_put, if_neg (by decide +kernel)]; rw [lookup_put, if_neg (by decide +kernel)]; rw [lookup_put, if_neg (by decide +kernel)]; rfl
theorem rF_no_next_row {v0 v1 v2 v3 v4 v5 v6 v7 v8 v9 : V} : (rF v0 v1 v2 v3 v4 v5 v6 v7 v8 v9).lookup ("next_row" : Str) = none := by unfold rF; rw [lookup_put, if_neg (by decide +kernel)]; rw [lookup_put, if_neg (by decide +kernel)]; rw [lookup_put, if_neg (by decide +kernel)]; rw [lookup_put, if_neg (by decide +kernel)]; rw [lookup_put, if_neg (by decide +kernel)]; rw [lookup_put, if_neg (by decide +kernel)]; rw [lookup_put, if_neg (by decide +kernel)]; rw [lookup_put, if_neg (by decide +kernel)]; rw [lookup_put, if_neg (by decide +kernel)]; rw [lookup_put, if_neg (by decide +kernel)]; rfl
theorem rF_no_not_the_hand {v0 v1 v2 v3 v4 v5 v6 v7 v8 v9 : V} : (rF v0 v1 v2 v3 v4 v5 v6 v7 v8 v9).lookup ("not_the_hand" : Str) = none := by unfold rF; rw [lookup_put, if_neg (by decide +kernel)]; rw [lookup_put, if_neg (by decide +kernel)]; rw [lookup_put, if_neg (by decide +kernel)]; rw [lookup_put, if_neg (by decide +kernel)]; rw [lookup_put, if_neg (by decide +kernel)]; rw [lookup_put, if_neg (by decide +kernel)]; rw [lookup_put, if_neg (by decide +kernel)]; rw [lookup_put, if_neg (by decide +kernel)]; rw [lookup_put, if_neg (by decide +kernel)]; rw [lookup_put, if_neg (by decide +kernel)]; rfl
/-- the object of a run -/
structure RA (CR : Addr) (H : Hp) (x dx m : Addr) (hand : Int) (lp lm lc ls lt : Addr) (as : List Addr) (vw : V) (s : Rn) : Prop where
  hx : H x = some (.ins CR dx (rF (.ref m) (.int hand) (.int s.ring) (.int s.a) (.ref lp) (.ref lm) vw (.ref lc) (.ref ls) (.ref lt)))
  hp : ∃ v, H lp = some (.lst v) ∧ RpAll H v (s.pt.map ptD)
  hm : H lm = some (.lst (as.map V.ref))
  la : as.length = s.me.length
  ha : ∀ (i : Nat) (a : Addr) (ws : List Wd), as[i]? = some a → s.me[i]? = some ws → ∃ v, H a = some (.lst v) ∧ RpAll H v (ws.map Wd.d)
  hw : Rp H vw (whD s.wh)
  hc : ∃ v, H lc = some (.lst v) ∧ RpAll H v (s.ca.map caD)
  hs : ∃ v, H ls = some (.lst v) ∧ RpAll H v (s.st.map stD)
  ht : ∃ v, H lt = some (.lst v) ∧ RpAll H v (s.to.map toD)
  nd : (lp :: lm :: lc :: ls :: lt :: as).Nodup
/-- .. that came behind the heap H0, which stands -/
structure RunAt (CR : Addr) (H0 H : Hp) (x m : Addr) (hand : Int) (s : Rn) : Prop where
  ex : ∃ dx lp lm lc ls lt as vw, RA CR H x dx m hand lp lm lc ls lt as vw s ∧ (∀ a ∈ lp :: lm :: lc :: ls :: lt :: as, H0 a = none)
  nx : H0 x = none
  sm : Same H0 H
section
variable {CR : Addr} {H0 H H' : Hp} {x m : Addr} {hand : Int} {s : Rn}
theorem RA.same {dx lp lm lc ls lt : Addr} {as : List Addr} {vw : V} (R : RA CR H x dx m hand lp lm lc ls lt as vw s) (e : Same H H') : RA CR H' x dx m hand lp lm lc ls lt as vw s where
  hx := e _ _ R.hx
  hp := let ⟨v, h, r⟩ := R.hp; ⟨v, e _ _ h, r.keep (Tk.of e)⟩
  hm := e _ _ R.hm
  la := R.la
  ha := fun i a ws h1 h2 => let ⟨v, h, r⟩ := R.ha i a ws h1 h2; ⟨v, e _ _ h, r.keep (Tk.of e)⟩
  hw := R.hw.keep (Tk.of e)
  hc := let ⟨v, h, r⟩ := R.hc; ⟨v, e _ _ h, r.keep (Tk.of e)⟩
  hs := let ⟨v, h, r⟩ := R.hs; ⟨v, e _ _ h, r.keep (Tk.of e)⟩
  ht := let ⟨v, h, r⟩ := R.ht; ⟨v, e _ _ h, r.keep (Tk.of e)⟩
  nd := R.nd
theorem RunAt.same (R : RunAt CR H0 H x m hand s) (e : Same H H') : RunAt CR H0 H' x m hand s :=
  let ⟨dx, lp, lm, lc, ls, lt, as, vw, r, n⟩ := R.ex; ⟨⟨dx, lp, lm, lc, ls, lt, as, vw, r.same e, n⟩, R.nx, R.sm.trans e⟩
/-- the object itself is changed -/
theorem RA.fld {dx lp lm lc ls lt : Addr} {as : List Addr} {vw vw' : V} {s' : Rn} (R : RA CR H x dx m hand lp lm lc ls lt as vw s) (fs : List (Str × V)) (hf : fs = rF (.ref m) (.int hand) (.int s'.ring) (.int s'.a) (.ref lp) (.ref lm) vw' (.ref lc) (.ref ls) (.ref lt))
    (e1 : s'.pt = s.pt) (e2 : s'.me = s.me) (e3 : s'.ca = s.ca) (e4 : s'.st = s.st) (e5 : s'.to = s.to) (hw : Rp H vw' (whD s'.wh)) : RA CR (upd H x (.ins CR dx fs)) x dx m hand lp lm lc ls lt as vw' s' := by
  have tk : Tk H (upd H x (.ins CR dx fs)) := Tk.ins R.hx
  have ne : ∀ {q : Addr} {v : List V}, H q = some (.lst v) → upd H x (.ins CR dx fs) q = some (.lst v) := fun {q v} h => by rw [upd_ne (ne_of h R.hx (fun z => nomatch z))]; exact h
  subst hf
  refine ⟨upd_same, ?_, ne R.hm, e2 ▸ R.la, ?_, hw.keep tk, ?_, ?_, ?_, R.nd⟩
  · rw [e1]; exact let ⟨v, h, r⟩ := R.hp; ⟨v, ne h, r.keep tk⟩
  · rw [e2]; exact fun i a ws h1 h2 => let ⟨v, h, r⟩ := R.ha i a ws h1 h2; ⟨v, ne h, r.keep tk⟩
  · rw [e3]; exact let ⟨v, h, r⟩ := R.hc; ⟨v, ne h, r.keep tk⟩
  · rw [e4]; exact let ⟨v, h, r⟩ := R.hs; ⟨v, ne h, r.keep tk⟩
  · rw [e5]; exact let ⟨v, h, r⟩ := R.ht; ⟨v, ne h, r.keep tk⟩
theorem same_put {o : HO} {q : Addr} (e : Same H0 H) (n : H0 q = none) : Same H0 (upd H q o) := fun c u h => by rw [upd_ne (ne_of_none h n)]; exact e _ _ h
end
end Rg

/-! the run's lists changed; what its methods promise -/
namespace Rg
open PySem PySem.Spec L2
section
variable {CR : Addr} {H0 H H' : Hp} {x dx m lp lm lc ls lt : Addr} {hand : Int} {as : List Addr} {vw : V} {s : Rn}
theorem RA.nx (R : RA CR H x dx m hand lp lm lc ls lt as vw s) {q : Addr} {v : List V} (h : H q = some (.lst v)) : q ≠ x := ne_of h R.hx (fun z => nomatch z)
/-- one of the five lists is changed -/
theorem RA.lists (R : RA CR H x dx m hand lp lm lc ls lt as vw s) {q : Addr} {v0 v1 : List V} (hq : H q = some (.lst v0)) (s' : Rn) (er : s'.ring = s.ring) (ea : s'.a = s.a) (ew : s'.wh = s.wh)
    (h1 : lp ≠ q ∧ s'.pt = s.pt ∨ lp = q ∧ RpAll H v1 (s'.pt.map ptD)) (h2 : lm ≠ q) (h3 : lc ≠ q ∧ s'.ca = s.ca ∨ lc = q ∧ RpAll H v1 (s'.ca.map caD)) (h4 : ls ≠ q ∧ s'.st = s.st ∨ ls = q ∧ RpAll H v1 (s'.st.map stD)) (h5 : lt ≠ q ∧ s'.to = s.to ∨ lt = q ∧ RpAll H v1 (s'.to.map toD))
    (h6 : s'.me.length = s.me.length) (h7 : ∀ (i : Nat) (a : Addr) (ws : List Wd), as[i]? = some a → s'.me[i]? = some ws → (a ≠ q ∧ s.me[i]? = some ws) ∨ (a = q ∧ RpAll H v1 (ws.map Wd.d))) :
    RA CR (upd H q (.lst v1)) x dx m hand lp lm lc ls lt as vw s' := by
  have tk : Tk H (upd H q (.lst v1)) := Tk.lst hq
  have one : ∀ {β : Type} {f : β → PyData} {l : Addr} {ys ys' : List β}, (∃ v, H l = some (.lst v) ∧ RpAll H v (ys.map f)) → (l ≠ q ∧ ys' = ys ∨ l = q ∧ RpAll H v1 (ys'.map f)) → ∃ v, upd H q (.lst v1) l = some (.lst v) ∧ RpAll (upd H q (.lst v1)) v (ys'.map f) := fun {β f l ys ys'} h hc => by
    rcases hc with ⟨ne, e⟩ | ⟨e, r⟩
    · obtain ⟨v, a1, a2⟩ := h
      exact ⟨v, (upd_ne ne).trans a1, e ▸ a2.keep tk⟩
    · exact ⟨v1, by rw [e, upd_same], r.keep tk⟩
  refine ⟨?_, one R.hp h1, (upd_ne h2).trans R.hm, R.la.trans h6.symm, fun i a ws e1 e2 => ?_, ew ▸ R.hw.keep tk, one R.hc h3, one R.hs h4, one R.ht h5, R.nd⟩
  · rw [upd_ne (Ne.symm (R.nx hq)), er, ea]
    exact R.hx
  · rcases h7 i a ws e1 e2 with ⟨ne, e⟩ | ⟨e, r⟩
    · obtain ⟨v, b1, b2⟩ := R.ha i a ws e1 e
      exact ⟨v, (upd_ne ne).trans b1, b2.keep tk⟩
    · exact ⟨v1, by rw [e, upd_same], r.keep tk⟩
/-- what the five lists' addresses are not -/
structure Dst (lp lm lc ls lt : Addr) (as : List Addr) : Prop where
  pm : lp ≠ lm
  pc : lp ≠ lc
  ps : lp ≠ ls
  pt : lp ≠ lt
  mc : lm ≠ lc
  ms : lm ≠ ls
  mt : lm ≠ lt
  cs : lc ≠ ls
  ct : lc ≠ lt
  st : ls ≠ lt
  pa : ∀ a ∈ as, a ≠ lp
  ma : ∀ a ∈ as, a ≠ lm
  ca : ∀ a ∈ as, a ≠ lc
  sa : ∀ a ∈ as, a ≠ ls
  ta : ∀ a ∈ as, a ≠ lt
  na : as.Nodup
theorem RA.dst (R : RA CR H x dx m hand lp lm lc ls lt as vw s) : Dst lp lm lc ls lt as := by
  have h := R.nd
  simp only [List.nodup_cons, List.mem_cons, not_or] at h
  obtain ⟨⟨a1, a2, a3, a4, a5⟩, ⟨b1, b2, b3, b4⟩, ⟨c1, c2, c3⟩, ⟨d1, d2⟩, e1, n⟩ := h
  exact ⟨a1, a2, a3, a4, b1, b2, b3, c1, c2, d1, fun a ha e => a5 (e ▸ ha), fun a ha e => b4 (e ▸ ha), fun a ha e => c3 (e ▸ ha), fun a ha e => d2 (e ▸ ha), fun a ha e => e1 (e ▸ ha), n⟩
theorem RA.setC (R : RA CR H x dx m hand lp lm lc ls lt as vw s) {v1 : List V} {ca : List (Int × Option (Int × Int))} (r : RpAll H v1 (ca.map caD)) : RA CR (upd H lc (.lst v1)) x dx m hand lp lm lc ls lt as vw { s with ca := ca } := by
  obtain ⟨v0, h0, _⟩ := R.hc
  have d := R.dst
  exact R.lists h0 _ rfl rfl rfl (.inl ⟨d.pc, rfl⟩) d.mc (.inr ⟨rfl, r⟩) (.inl ⟨d.cs.symm, rfl⟩) (.inl ⟨d.ct.symm, rfl⟩) rfl fun i a ws h1 h2 => .inl ⟨d.ca a (List.mem_of_getElem? h1), h2⟩
theorem RA.setS (R : RA CR H x dx m hand lp lm lc ls lt as vw s) {v1 : List V} {st : List (Int × Int × Int × Int)} (r : RpAll H v1 (st.map stD)) : RA CR (upd H ls (.lst v1)) x dx m hand lp lm lc ls lt as vw { s with st := st } := by
  obtain ⟨v0, h0, _⟩ := R.hs
  have d := R.dst
  exact R.lists h0 _ rfl rfl rfl (.inl ⟨d.ps, rfl⟩) d.ms (.inl ⟨d.cs, rfl⟩) (.inr ⟨rfl, r⟩) (.inl ⟨d.st.symm, rfl⟩) rfl fun i a ws h1 h2 => .inl ⟨d.sa a (List.mem_of_getElem? h1), h2⟩
theorem RA.setT (R : RA CR H x dx m hand lp lm lc ls lt as vw s) {v1 : List V} {to : List (Int × Int × Int × Str)} (r : RpAll H v1 (to.map toD)) : RA CR (upd H lt (.lst v1)) x dx m hand lp lm lc ls lt as vw { s with to := to } := by
  obtain ⟨v0, h0, _⟩ := R.ht
  have d := R.dst
  exact R.lists h0 _ rfl rfl rfl (.inl ⟨d.pt, rfl⟩) d.mt (.inl ⟨d.ct, rfl⟩) (.inl ⟨d.st, rfl⟩) (.inr ⟨rfl, r⟩) rfl fun i a ws h1 h2 => .inl ⟨d.ta a (List.mem_of_getElem? h1), h2⟩
theorem RA.setP (R : RA CR H x dx m hand lp lm lc ls lt as vw s) {v1 : List V} {pt : List Pt} (r : RpAll H v1 (pt.map ptD)) : RA CR (upd H lp (.lst v1)) x dx m hand lp lm lc ls lt as vw { s with pt := pt } := by
  obtain ⟨v0, h0, _⟩ := R.hp
  have d := R.dst
  exact R.lists h0 _ rfl rfl rfl (.inr ⟨rfl, r⟩) d.pm.symm (.inl ⟨d.pc.symm, rfl⟩) (.inl ⟨d.ps.symm, rfl⟩) (.inl ⟨d.pt.symm, rfl⟩) rfl fun i a ws h1 h2 => .inl ⟨d.pa a (List.mem_of_getElem? h1), h2⟩
theorem RA.setM (R : RA CR H x dx m hand lp lm lc ls lt as vw s) {g : Nat} {q : Addr} {v1 : List V} {ws : List Wd} (hq : as[g]? = some q) (r : RpAll H v1 (ws.map Wd.d)) : RA CR (upd H q (.lst v1)) x dx m hand lp lm lc ls lt as vw { s with me := s.me.set g ws } := by
  have hg : g < s.me.length := R.la ▸ (List.getElem?_eq_some_iff.mp hq).1
  obtain ⟨v0, h0, _⟩ := R.ha g q _ hq (List.getElem?_eq_getElem hg)
  have d := R.dst
  have mq := List.mem_of_getElem? hq
  refine R.lists h0 _ rfl rfl rfl (.inl ⟨(d.pa q mq).symm, rfl⟩) (d.ma q mq).symm (.inl ⟨(d.ca q mq).symm, rfl⟩) (.inl ⟨(d.sa q mq).symm, rfl⟩) (.inl ⟨(d.ta q mq).symm, rfl⟩) (by show (s.me.set g ws).length = _; rw [List.length_set]) fun i a ws' h1 h2 => ?_
  have h2' : (s.me.set g ws)[i]? = some ws' := h2
  by_cases e : i = g
  · subst e
    rw [List.getElem?_set_self hg] at h2'
    cases h2'
    rw [hq] at h1
    cases h1
    exact .inr ⟨rfl, r⟩
  · rw [List.getElem?_set_ne (Ne.symm e)] at h2'
    refine .inl ⟨fun z => e ?_, h2'⟩
    have l1 := (List.getElem?_eq_some_iff.mp h1)
    have l2 := (List.getElem?_eq_some_iff.mp hq)
    exact (List.getElem_inj (h₀ := l1.1) (h₁ := l2.1) d.na).mp (l1.2.trans (z.trans l2.2.symm))
/-- a new list of pointers -/
theorem RA.newP (R : RA CR H x dx m hand lp lm lc ls lt as vw s) {lq : Addr} {v1 : List V} {pt : List Pt} (hq : H lq = some (.lst v1)) (r : RpAll H v1 (pt.map ptD)) (h2 : lq ≠ lm) (h3 : lq ≠ lc) (h4 : lq ≠ ls) (h5 : lq ≠ lt) (h6 : lq ∉ as) (fs : List (Str × V))
    (hf : fs = rF (.ref m) (.int hand) (.int s.ring) (.int s.a) (.ref lq) (.ref lm) vw (.ref lc) (.ref ls) (.ref lt)) : RA CR (upd H x (.ins CR dx fs)) x dx m hand lq lm lc ls lt as vw { s with pt := pt } := by
  have tk : Tk H (upd H x (.ins CR dx fs)) := Tk.ins R.hx
  have ne : ∀ {q : Addr} {v : List V}, H q = some (.lst v) → upd H x (.ins CR dx fs) q = some (.lst v) := fun {q v} h => (upd_ne (ne_of h R.hx (fun z => nomatch z))).trans h
  subst hf
  have hn := R.nd
  simp only [List.nodup_cons, List.mem_cons, not_or] at hn ⊢
  exact ⟨upd_same, ⟨v1, ne hq, r.keep tk⟩, ne R.hm, R.la, fun i a ws a1 a2 => let ⟨v, h, r⟩ := R.ha i a ws a1 a2; ⟨v, ne h, r.keep tk⟩, R.hw.keep tk, let ⟨v, h, r⟩ := R.hc; ⟨v, ne h, r.keep tk⟩, let ⟨v, h, r⟩ := R.hs; ⟨v, ne h, r.keep tk⟩, let ⟨v, h, r⟩ := R.ht; ⟨v, ne h, r.keep tk⟩, by
    simp only [List.nodup_cons, List.mem_cons, not_or]
    exact ⟨⟨h2, h3, h4, h5, h6⟩, hn.2⟩⟩
end
/-- what is fixed while a deed is done: the machine -/
structure Mch (C : Addr) (H0 : Hp) (m : Addr) (us : List V) (xs : List Sg) (b : Int) : Prop where
  at_ : MAt C H0 m us b
  rp : RpAll H0 us (xs.map Sg.d)
  l8 : xs.length ≤ 8
  b2 : 2 ≤ b
  ok : ∀ x ∈ xs, SgForm x ∧ sgFits x b xs.length = true
/-- the first call is the hand's, and none other is; and the hand is at it just where no call is left -/
def Stk (w : Option (Int × Int)) (ca : List (Int × Option (Int × Int))) : Prop := (w = none ↔ ca = []) ∧ ∀ (i : Nat) (c : Int × Option (Int × Int)), ca[i]? = some c → (c.2 = none ↔ i = 0)
theorem Stk.nil : Stk none [] := ⟨⟨fun _ => rfl, fun _ => rfl⟩, fun i c h => by simp at h⟩
theorem Stk.push {w : Option (Int × Int)} {ca : List (Int × Option (Int × Int))} (h : Stk w ca) (r : Int) (x : Int × Int) : Stk (some x) (ca ++ [(r, w)]) := by
  refine ⟨⟨fun e => (nomatch e), fun e => by simp at e⟩, fun i c hc => ?_⟩
  by_cases hi : i < ca.length
  · rw [List.getElem?_append_left hi] at hc
    exact h.2 i c hc
  · have e : i = ca.length := by
      have := (List.getElem?_eq_some_iff.mp hc).1
      simp at this
      omega
    subst e
    simp at hc
    subst hc
    show w = none ↔ _
    rw [h.1, List.length_eq_zero_iff]
theorem Stk.pop {w w' : Option (Int × Int)} {ca : List (Int × Option (Int × Int))} {r : Int} (h : Stk w ca) (e : ca.getLast? = some (r, w')) : Stk w' ca.dropLast := by
  have h1 : ca[ca.length - 1]? = some (r, w') := by rw [← List.getLast?_eq_getElem?]; exact e
  have h2 := h.2 _ _ h1
  have hp : ca ≠ [] := fun z => by rw [z] at e; cases e
  have hl : 0 < ca.length := List.length_pos_iff.mpr hp
  refine ⟨h2.trans ⟨fun z => List.length_eq_zero_iff.mp (by rw [List.length_dropLast]; exact z), fun z => by have := congrArg List.length z; rw [List.length_dropLast] at this; exact this⟩, fun i c hc => h.2 i c ?_⟩
  have hi := (List.getElem?_eq_some_iff.mp hc).1
  rw [List.getElem?_dropLast] at hc
  split at hc
  · exact hc
  · cases hc
theorem Stk.at {x y : Int × Int} {ca : List (Int × Option (Int × Int))} (h : Stk (some x) ca) : Stk (some y) ca := ⟨⟨fun e => (nomatch e), fun e => (nomatch h.1.mpr e)⟩, h.2⟩
theorem Stk.ne {x : Int × Int} {ca : List (Int × Option (Int × Int))} (h : Stk (some x) ca) : ca ≠ [] := fun e => (nomatch h.1.mpr e)
/-- what holds of a run's state -/
structure WF (xs : List Sg) (s : Rn) : Prop where
  pt4 : s.pt.length = 4
  ptg : ∀ r g p, some (r, g, p) ∈ s.pt → 0 ≤ g ∧ g < (xs.length : Int) ∧ 0 ≤ p
  me : s.me.length = xs.length
  mw : ∀ ws ∈ s.me, ws.length ≤ 900 ∧ ∀ r g p, Wd.ptr r g p ∈ ws → 0 ≤ g ∧ g < (xs.length : Int) ∧ 0 ≤ p
  wh : ∀ g p, s.wh = some (g, p) → 0 ≤ g ∧ g < (xs.length : Int)
  ca : ∀ c ∈ s.ca, ∀ g p, c.2 = some (g, p) → 0 ≤ g ∧ g < (xs.length : Int)
  c8 : s.ca.length ≤ 8
  s9 : s.st.length ≤ 900
  t9 : s.to.length ≤ 2000
  sk : Stk s.wh s.ca
/-- a fault is let out: the heap is kept -/
def Flt (CF : Addr) (E : XK) (H : Hp) (c : Str) : Prop := ∀ (d : Addr) (H' : Hp), H d = none → H' d = some (.xd [("cause", .str c)]) → Same H H' → E (.ref CF) (some d) H'
/-- the end of a row -/
def RunEnd (CR CF : Addr) (Q : VK) (E : XK) (H0 H : Hp) (x m : Addr) (hand : Int) (res : Rn × Option Str) : Prop := match res.2 with
  | none => ∀ H', RunAt CR H0 H' x m hand res.1 → Tk H H' → Q .non H'
  | some c => ∀ (d : Addr) (H' : Hp), H' d = some (.xd [("cause", .str c)]) → H0 d = none → RunAt CR H0 H' x m hand res.1 → Tk H H' → E (.ref CF) (some d) H'
theorem RunEnd.flt {CR CF : Addr} {Q : VK} {E : XK} {H0 H : Hp} {x m : Addr} {hand : Int} {s : Rn} {c : Str} (h : RunEnd CR CF Q E H0 H x m hand (s, some c)) {H1 : Hp} (R : RunAt CR H0 H1 x m hand s) (tk : Tk H H1) : Flt CF E H1 c := fun d H' hd hx e => h d H' hx (R.sm.free hd) (R.same e) (tk.trans (Tk.of e))
end Rg

/-! methods and defs that let faults out -/
namespace Rg
open PySem PySem.Spec L2
/-- the class Fault -/
structure FltC (P : Program) (w : World) (K : PySem.W.Frag) (mg : Str → Option Value) (base : Heap) (CF : Addr) : Prop where
  oex : OexE K CF
  wc : PySem.W.findIn K (.ref CF) "cause" = some none
  mgx : mg "Fault" = some (.ref CF)
  xf : XfC K CF
  ini : ∃ f fd, PySem.W.findIn K (.ref CF) "__init__" = some (some (.ref f)) ∧ PySem.W.typeIn K (.ref f) = some (.type "function") ∧ Binds K fd ["self", "cause"] [] ∧ FnOk P w K mg base CX0 1 f fd ["self", "cause"] (spFE K)
def tRf (CF : Addr) (W : WX) (te : TE) : TS := fun _ σ H => te σ H fun v H1 => ∀ d, H1 d = none → W (.ref CF) (some d) σ (upd H1 d (.xd [("cause", v)]))
theorem ps_fault {X : Cx} {W : WX} {CF : Addr} {e : Expr} {te : TE} {p pos pos' : Pos} (Fc : FltC X.prog X.w X.K X.mg X.base CF) (hc : X.calm = true) (tk : L2N.Takes X W) (hr : Room 2 X.A) (hg : Gl X "Fault") (he : PE X e te)
    (hst : starEach [e] X.env = (false, eval e X.env) :: starEach [] X.env := by rfl) (hpl : (backTo pos (starEach [] X.env)).any (·.1) = false := by rfl) : PS X (.Raise (some (.Call (.Name "Fault" p) [e] [] pos)) none pos') (tRf CF W te) := by
  obtain ⟨f, fd, i1, i2, b, F1⟩ := Fc.ini
  exact L2N.ps_raise hc tk (pmk_fault Fc.oex Fc.wc i1 i2 F1 hr b hg Fc.mgx he (by decide) hst hpl)
theorem rd_rf {CF : Addr} {W : WX} {te : TE} {D : Ends} {σ : L2.St} {H : Hp} (h : te σ H fun v H1 => ∀ d, H1 d = none → W (.ref CF) (some d) σ (upd H1 d (.xd [("cause", v)]))) : tRf CF W te D σ H := h
theorem Flt.here {CF : Addr} {E : XK} {H : Hp} {c : Str} (h : Flt CF E H c) : ∀ d, H d = none → E (.ref CF) (some d) (upd H d (.xd [("cause", .str c)])) := fun d hd => h d _ hd upd_same (same_upd hd)
/-- the class Run -/
structure RCl (K : PySem.W.Frag) (mg : Str → Option Value) (CR : Addr) : Prop where
  cl : Cls K CR
  n_machine : NoAttr K CR "machine"
  n_hand : NoAttr K CR "hand"
  n_ring : NoAttr K CR "ring"
  n_a : NoAttr K CR "a"
  n_pointers : NoAttr K CR "pointers"
  n_memory : NoAttr K CR "memory"
  n_where : NoAttr K CR "where"
  n_calls : NoAttr K CR "calls"
  n_steps : NoAttr K CR "steps"
  n_touches : NoAttr K CR "touches"
  mgC : mg "Run" = some (.ref CR)
structure MthX (P : Program) (w : World) (K : PySem.W.Frag) (mg : Str → Option Value) (base : Heap) (C : Addr) (m : Str) (k : Nat) (ps : List Str) (sp : Sp) : Prop where
  ex : ∃ (f : Addr) (fd : FuncData), Meth K C m f ∧ Binds K fd ps [] ∧ FnOk P w K mg base (L2N.CX P w) k f fd ps sp
structure CalN (P : Program) (w : World) (K : PySem.W.Frag) (mg : Str → Option Value) (base : Heap) (x : Str) (k : Nat) (ps : List Str) (sp : Sp) : Prop where
  ex : ∃ (f : Addr) (fd : FuncData), mg x = some (.ref f) ∧ PySem.W.keepIn K (.ref f) = true ∧ Binds K fd ps [] ∧ FnOk P w K mg base (L2N.CX P w) k f fd ps sp
section
variable {X : Cx} {C : Addr} {k : Nat} {ps : List Str} {sp : Sp} {m x : Str} {pos apos p : Pos} {e o : Expr} {es : List Expr} {t : TA} {ta : TE} {E : XK}
theorem pe_mthE {pl : Sem Bool} (M : MthX X.prog X.w X.K X.mg X.base C m k ps sp) (c : Cls X.K C) (hr : Room k X.A) (tk : L2N.Takes X (fun cls d _ H => E cls d H)) (he : PE X o ta) (ha : PA X (e :: es) t)
    (hst : starEach (e :: es) X.env = (false, eval e X.env) :: starEach es X.env := by rfl) (hpl : (backTo pos (starEach es X.env)).any (·.1) = false := by rfl)
    (ht : eval (.Call (.Attribute o m apos) (e :: es) [] pos) X.env = (do
      let ov ← eval o X.env
      standAt apos.atName
      let (f, first) ← holding [ov] (getMethod ov m pl)
      callWith pos f first (backTo pos (starEach (e :: es) X.env)) (backToKw pos (keywordEach [] X.env))) := by rfl) :
    PE X (.Call (.Attribute o m apos) (e :: es) [] pos) (tMeth C m sp [] E ta t) := by
  obtain ⟨f, fd, hm, hb, F⟩ := M.ex
  exact pe_meth he c hm F hr hb .nil (L2N.passes_call tk fun _ _ _ _ h => h) ha hst hpl ht
theorem pe_mthE0 {pl : Sem Bool} (M : MthX X.prog X.w X.K X.mg X.base C m k ps sp) (c : Cls X.K C) (hr : Room k X.A) (tk : L2N.Takes X (fun cls d _ H => E cls d H)) (he : PE X o ta)
    (ht : eval (.Call (.Attribute o m apos) [] [] pos) X.env = (do
      let ov ← eval o X.env
      standAt apos.atName
      let (f, first) ← holding [ov] (getMethod ov m pl)
      callWith pos f first (backTo pos (starEach [] X.env)) (backToKw pos (keywordEach [] X.env))) := by rfl) :
    PE X (.Call (.Attribute o m apos) [] [] pos) (tMeth C m sp [] E ta tNil) := by
  obtain ⟨f, fd, hm, hb, F⟩ := M.ex
  exact pe_meth0 he c hm F hr hb .nil (L2N.passes_call tk fun _ _ _ _ h => h) ht
theorem pe_calE (Cc : CalN X.prog X.w X.K X.mg X.base x k ps sp) (hr : Room k X.A) (hg : Gl X x) (tk : L2N.Takes X (fun cls d _ H => E cls d H)) (ha : PA X (e :: es) t) (hdb : (x == ("__debug__" : Str)) = false := by decide)
    (he : starEach (e :: es) X.env = (false, eval e X.env) :: starEach es X.env := by rfl) (hpl : (backTo pos (starEach es X.env)).any (·.1) = false := by rfl) :
    PE X (.Call (.Name x p) (e :: es) [] pos) (tCall sp [] E t) := by
  obtain ⟨f, fd, hm, hk, hb, F⟩ := Cc.ex
  exact pe_call F hr hg hm hk hb .nil (L2N.passes_call tk fun _ _ _ _ h => h) ha hdb he hpl
/-- in the body of a try -/
theorem pe_calNS {W : WX} (Cc : CalN X.prog X.w X.K X.mg X.base x k ps sp) (tk : L2N.Takes X W) (hr : Room k X.A) (hg : Gl X x) (ha : PA X (e :: es) t) (hdb : (x == ("__debug__" : Str)) = false := by decide)
    (he : starEach (e :: es) X.env = (false, eval e X.env) :: starEach es X.env := by rfl) (hpl : (backTo pos (starEach es X.env)).any (·.1) = false := by rfl) :
    PE X (.Call (.Name x p) (e :: es) [] pos) (tCallS sp (WE W) t) := by
  obtain ⟨f, fd, hm, hk, hb, F⟩ := Cc.ex
  exact pe_callS F hr hg hm hk hb (fun σ => L2N.passAt tk σ) ha hdb he hpl
end
/-- fields of a run -/
theorem rd_rfld {K : PySem.W.Frag} {CR : Addr} {H : Hp} {Q : VK} {x dx : Addr} {fs : List (Str × V)} {f : Str} {v : V} (hx : H x = some (.ins CR dx fs)) (c : Cls K CR) (n : NoAttr K CR f) (l : fs.lookup f = some v) (q : Q v H) :
    ∃ a C dx fs v, V.ref x = .ref a ∧ H a = some (.ins C dx fs) ∧ Cls K C ∧ NoAttr K C f ∧ fs.lookup f = some v ∧ Q v H := ⟨x, CR, dx, fs, v, rfl, hx, c, n, l, q⟩
theorem rd_rset {K : PySem.W.Frag} {CR : Addr} {H : Hp} {R : Hp → Prop} {x dx : Addr} {fs : List (Str × V)} {f : Str} {y : V} (hx : H x = some (.ins CR dx fs)) (c : Cls K CR) (n : NoAttr K CR f) (l : fs.length < 1000) (q : R (upd H x (.ins CR dx (putF f y fs)))) :
    ∃ a C dx fs, V.ref x = .ref a ∧ H a = some (.ins C dx fs) ∧ Cls K C ∧ NoAttr K C f ∧ fs.length < 1000 ∧ R (upd H a (.ins C dx (putF f y fs))) := ⟨x, CR, dx, fs, rfl, hx, c, n, l, q⟩
/-! ### what the methods promise -/
def spPointer (CR CF : Addr) : Sp := fun vs H Q E => ∃ (H0 : Hp) (x m : Addr) (hand p : Int) (s : Rn), vs = [.ref x, .int p] ∧ RunAt CR H0 H x m hand s ∧ s.pt.length = 4 ∧ 0 ≤ p ∧ p < 4 ∧
  (∀ r g pl, s.ptr p = some (r, g, pl) → ∀ q : Addr, H q = some (.tup [.int r, .int g, .int pl]) → Q (.ref q) H) ∧ (s.ptr p = none → Flt CF E H "pointer")
def spSpot (CR CF : Addr) : Sp := fun vs H Q E => ∃ (H0 : Hp) (x m : Addr) (hand p w : Int) (s : Rn) (xs : List Sg), vs = [.ref x, .int p, .int w] ∧ RunAt CR H0 H x m hand s ∧ WF xs s ∧ 0 ≤ p ∧ p < 4 ∧
  (∀ e g pl, spotR s p w = .ok (e, g, pl) → ∀ (q : Addr) (H' : Hp), H' q = some (.tup [.int e, .int g, .int pl]) → Same H H' → Q (.ref q) H') ∧ (∀ c, spotR s p w = .error c → Flt CF E H c)
def spRead (C CR CF : Addr) : Sp := fun vs H Q E => ∃ (H0 : Hp) (x m : Addr) (us : List V) (xs : List Sg) (b hand p w : Int) (s : Rn), vs = [.ref x, .int p, .int w] ∧ Mch C H0 m us xs b ∧ RunAt CR H0 H x m hand s ∧ WF xs s ∧ 0 ≤ p ∧ p < 4 ∧
  (∀ wd e g s', readR xs s p w = .ok (wd, e, g, s') → ∀ (v : V) (q : Addr) (H' : Hp), H' q = some (.tup [v, .int e, .int g]) → Rp H' v wd.d → RunAt CR H0 H' x m hand s' → Tk H H' → Q (.ref q) H') ∧ (∀ c, readR xs s p w = .error c → Flt CF E H c)
def spWrite (C CR CF : Addr) : Sp := fun vs H Q E => ∃ (H0 : Hp) (x m : Addr) (us : List V) (xs : List Sg) (b hand p w : Int) (v : V) (wd : Wd) (s : Rn), vs = [.ref x, .int p, .int w, v] ∧ Mch C H0 m us xs b ∧ RunAt CR H0 H x m hand s ∧ WF xs s ∧ 0 ≤ p ∧ p < 4 ∧ Rp H v wd.d ∧
  RunEnd CR CF Q E H0 H x m hand (writeR xs s p w wd)
/-- a row's def, by its numbers -/
def spDo (C CR CF : Addr) (fn : List Sg → Int → Rn → List Int → Rn × Option Str) (ok : List Sg → List Int → Prop) : Sp := fun vs H Q E => ∃ (H0 : Hp) (x m : Addr) (us : List V) (xs : List Sg) (b hand : Int) (s : Rn) (ns : List Int), vs = .ref x :: ns.map V.int ∧ Mch C H0 m us xs b ∧ RunAt CR H0 H x m hand s ∧ WF xs s ∧ ok xs ns ∧
  RunEnd CR CF Q E H0 H x m hand (fn xs b s ns)
theorem pt_get {s : Rn} {p : Int} {H : Hp} {v : List V} (r : RpAll H v (s.pt.map ptD)) (h4 : s.pt.length = 4) (p0 : 0 ≤ p) (p4 : p < 4) : ∃ u, atI v p = some u ∧ Rp H u (ptD (s.ptr p)) := by
  have hl : p.toNat < s.pt.length := by omega
  obtain ⟨u, hu, ru⟩ := r.get2 (i := p.toNat) (d := ptD (s.ptr p)) (by
    unfold Rn.ptr
    rw [List.getElem?_map, List.getD_eq_getElem?_getD, List.getElem?_eq_getElem hl]
    rfl)
  exact ⟨u, at_of (by omega) hu, ru⟩
theorem ptD_some {H : Hp} {u : V} {r g p : Int} (h : Rp H u (ptD (some (r, g, p)))) : ∃ q, u = .ref q ∧ H q = some (.tup [.int r, .int g, .int p]) := by
  obtain ⟨q, vs, rfl, hq, ha⟩ := Rp.tup_inv (show Rp H u (.tuple [.int r, .int g, .int p]) from h)
  have e := RpAll.ints_inv (ns := [r, g, p]) ha
  subst e
  exact ⟨q, rfl, hq⟩
end Rg

/-! a name that holds one of several defs, called with a star; the table of actions -/
namespace Rg
open PySem PySem.Spec PyProof.Rows L2 L2H
structure HeldX (P : Program) (w : World) (K : PySem.W.Frag) (mg : Str → Option Value) (base : Heap) (k : Nat) (f : Addr) (sp : Sp) : Prop where
  ex : ∃ (fd : FuncData) (ps : List Str), FnOk P w K mg base (L2N.CX P w) k f fd ps sp ∧ PySem.W.keepIn K (.ref f) = true ∧ Binds K fd ps []
def tCallAX (i : Nat) (E : XK) (G : Addr → Sp → Prop) (t : TA) : TE := fun σ H Q => ∃ f sp, σ[i]? = some (some (.ref f)) ∧ G f sp ∧ t σ H fun vs H1 => sp vs H1 Q E
section
variable {X : Cx} {k i : Nat} {E : XK} {x : Str} {p pos : Pos} {e : Expr} {es : List Expr} {t : TA} {G : Addr → Sp → Prop}
theorem pe_callAX (A : ∀ f sp, G f sp → HeldX X.prog X.w X.K X.mg X.base k f sp) (hr : Room k X.A) (hN : X.N[i]? = some x) (hv : Vis X.env.scope x) (tk : L2N.Takes X (fun cls d _ H => E cls d H)) (ha : PA X (e :: es) t)
    (hdb : (x == ("__debug__" : Str)) = false := by decide) (hcd : (x == ("__classdict__" : Str)) = false := by decide)
    (he : starEach (e :: es) X.env = (false, eval e X.env) :: starEach es X.env := by rfl) (hst : (backTo pos (starEach es X.env)).any (·.1) = true := by rfl) : PE X (.Call (.Name x p) (e :: es) [] pos) (tCallAX i E G t) := by
  refine ⟨fun pins s σ H Q I h => ?_⟩
  obtain ⟨f, sp, hs, hG, ht⟩ := h
  obtain ⟨fd, ps, F, hk, hb⟩ := (A f sp hG).ex
  refine wpAny_Call_Name_kw (thn ((pe_var (pos := p) hN hv hdb hcd).run pins s σ H (fun v H1 => v = .ref f ∧ H1 = H) I ⟨.ref f, hs, rfl, rfl⟩) fun u z ⟨v, H1, I1, r1, q1⟩ => ?_)
  obtain ⟨rfl, rfl⟩ := q1
  cases r1
  refine PySem.W.callWith_S2 (h₀ := X.base) I.ok.mod.kin hk (thn (ha.run pos pins z σ _ _ I1 ht) fun us z2 ⟨vs, H2, I2, r, q⟩ => ⟨I2.kIn, ?_⟩) he hst
  have q0 : sp (vs ++ []) H2 Q E := by rw [List.append_nil]; exact q
  exact run_fn F hr hb .nil (L2N.passes_call tk fun _ _ _ _ h => h) I2 r q0
end
theorem rd_callAX {i : Nat} {E : XK} {G : Addr → Sp → Prop} {t : TA} {σ : L2.St} {H : Hp} {Q : VK} {f : Addr} {sp : Sp} (h1 : σ[i]? = some (some (.ref f))) (h2 : G f sp) (h : t σ H fun vs H1 => sp vs H1 Q E) : tCallAX i E G t σ H Q := ⟨f, sp, h1, h2, h⟩
theorem rd_star {K : PySem.W.Frag} {te : TE} {t : TA} {σ : L2.St} {H : Hp} {R : List V → Hp → Prop} (h : te σ H fun x H1 => ∃ p xs, x = V.ref p ∧ (SqT K H1 p xs ∨ SqL K H1 p xs) ∧ t σ H1 fun ys H2 => R (xs ++ ys) H2) : StX.tStar K te t σ H R := h
/-- o.m() in an except suite -/
theorem pe_methH0 {X : Cx} {CX : CXT} {C f : Addr} {k : Nat} {fd : FuncData} {ps : List Str} {sp : Sp} {m : Str} {o : Expr} {ta : TE} {E : L2.St → XK} {pos apos : Pos} {pl : Sem Bool} (he : PE X o ta) (c : Cls X.K C) (hm : Meth X.K C m f) (F : FnH X.prog X.w X.K X.mg X.base CX k f fd ps sp) (hr : RoomH k X.A) (hc : HotC X) (hb : Binds X.K fd ps []) (hx : ∀ σ, PassesAt CX X σ (E σ))
    (ht : eval (.Call (.Attribute o m apos) [] [] pos) X.env = (do
      let ov ← eval o X.env
      standAt apos.atName
      let (f, first) ← holding [ov] (getMethod ov m pl)
      callWith pos f first (backTo pos (starEach [] X.env)) (backToKw pos (keywordEach [] X.env))) := by rfl) :
    PE X (.Call (.Attribute o m apos) [] [] pos) (tMethH C m sp E ta tNil) := by
  refine ⟨fun pins s σ H Q I h => PySem.W.methodCall_KW (pl := pl) (thn (he.run pins s σ H _ I h) fun u z ⟨x, H1, I1, rx, a, dx, fs, ex, ea, l, q⟩ => ?_) ht⟩
  subst ex
  cases rx
  refine getmeth_ok I1 ea c hm l ?_
  refine PySem.W.callWith_K0 (first := [.ref a]) I1.kIn hm.kp ?_
  exact run_fnH (us := [.ref a]) (vs := [.ref a]) F hr hc hb (hx σ) I1 (.cons rfl .nil) q
theorem rd_methH {C : Addr} {m : Str} {sp : Sp} {E : L2.St → XK} {ta : TE} {t : TA} {σ : L2.St} {H : Hp} {Q : VK} (h : ta σ H fun x H1 => ∃ a dx fs, x = .ref a ∧ H1 a = some (.ins C dx fs) ∧ fs.lookup m = none ∧ t σ H1 fun vs H2 => sp (x :: vs) H2 Q (E σ)) : tMethH C m sp E ta t σ H Q := h
/-! ### the actions -/
def actOps : List Str := ["set", "add", "load", "store", "fetch", "keep", "aim", "move", "zero", "go", "call", "return"]
/-- the table of the top: each word's def -/
def GAct (K : PySem.W.Frag) (w : World) (mg : Str → Option Value) (af : Str → Addr) : Prop := ∃ a, mg "ACTIONS" = some (.ref a) ∧ ∀ z ∈ actOps, KDct K w a z (.ref (af z))
def tAct (K : PySem.W.Frag) (w : World) (af : Str → Addr) : TE := fun _ H Q => ∀ a, (∀ z ∈ actOps, KDct K w a z (.ref (af z))) → Q (.ref a) H
theorem pe_act {X : Cx} {pos : Pos} {af : Str → Addr} (h : GAct X.K X.w X.mg af) (hg : Gl X "ACTIONS") : PE X (.Name "ACTIONS" pos) (tAct X.K X.w af) := by
  obtain ⟨a, e, q⟩ := h
  have p : PE X (.Name "ACTIONS" pos) (tC (.ref a)) := pe_glob hg e rfl
  exact ⟨fun pins s σ H Q I hw => p.run pins s σ H Q I (hw a q)⟩
theorem ix_dK {X : Cx} {K : PySem.W.Frag} {w : World} (h1 : X.K = K := by rfl) (h2 : X.w = w := by rfl) : IxR X (rIxD K w) := by subst h1 h2; exact ix_kdict
theorem takes0N {X : Cx} : L2N.Takes X (fun _ _ _ _ => False) := fun _ _ ⟨_, _, _, _, _, _, _, _, _, _, _, _, _, _, _, _, w⟩ => w.elim
theorem Fun.okH {CX : CXT} {P : Program} {w : World} {K : PySem.W.Frag} {mg : Str → Option Value} {base : Heap} {x qual : Str} {st : Stmt} {f : Addr} {fd : FuncData} {N ps : List Str} {k : Nat} {sp : Sp} (F : L2.Fun K x qual st f fd) (S : FnScope N ps (defScope st)) (len : ∀ vs H Q E, sp vs H Q E → vs.length = ps.length)
    (body : ∀ (cdv : Value) (A : Around) (outer : List Env) (s : Shared) (H : Hp) (vs : List V) (Q : VK) (E : XK) (p : Addr × Obj), L2H.Hot1 A p → L2H.RoomH k (A.deeper (envOfC qual (defScope st) s.heap.objs.size f cdv)) → sp vs H Q E →
      ∃ t, PSs (L2H.cxH CX P w K mg base N qual (defScope st) f cdv A outer s H E p) (defBody st) t ∧ t { nx := fun _ H' => Q .non H', rt := Q } (L2.start N vs) H) : L2H.FnH P w K mg base CX (k + 1) f fd ps sp := by
  obtain ⟨oc, od, kV, doc, pm, an, cdv, ct, osl, rfl, lk, hcd⟩ := F.ex
  exact L2H.fn_ofH lk hcd S len fun A outer s H vs Q E p ht hr h => body cdv A outer s H vs Q E p ht hr h
end Rg

/-! the law's own world: a dict; the mirror is the run's -/
namespace Rg
open PySem PySem.Spec PyProof.Rows L2
theorem hu_of {k : Nat} {A : Around} (r : Room k A) : A.units + 1 < cLine := by have := r.un; omega
theorem put_no {k : Key} {v : V} {r : List (Key × V)} (h : valV r k = none) : putK r k v = r ++ [(k, v)] := by
  unfold putK
  rw [valV_any, h]
  rfl
theorem put_pos {k : Key} {v u : V} {r : List (Key × V)} (h : valV r k = none) : putK ((k, u) :: r) k v = (k, v) :: r := by
  unfold putK
  rw [valV_any, valV_pos rfl, if_pos (by rfl), List.map_cons, if_pos (by rfl)]
  congr 1
  conv => rhs; rw [← List.map_id r]
  refine List.map_congr_left fun p hp => ?_
  rw [if_neg fun e => ?_]
  · rfl
  · have : (r.any fun kv => decide (kv.1 = k)) = true := List.any_eq_true.mpr ⟨p, hp, decide_eq_true e⟩
    rw [valV_any, h] at this
    cases this
theorem put_neg {k : Key} {v : V} {p : Key × V} {r : List (Key × V)} (e : ¬ p.1 = k) (h : (valV r k).isSome = true) : putK (p :: r) k v = p :: putK r k v := by
  unfold putK
  rw [valV_any, valV_any, valV_neg e, h, if_pos rfl, if_pos rfl, List.map_cons, if_neg e]
def wF (v0 v1 v2 v3 v4 v5 v6 v7 v8 : V) : List (Key × V) := [((Sum.inr ("segments" : Str) : Key), v0), ((Sum.inr ("base" : Str) : Key), v1), ((Sum.inr ("ring" : Str) : Key), v2), ((Sum.inr ("a" : Str) : Key), v3), ((Sum.inr ("pointers" : Str) : Key), v4), ((Sum.inr ("calls" : Str) : Key), v5), ((Sum.inr ("memory" : Str) : Key), v6), ((Sum.inr ("at" : Str) : Key), v7), ((Sum.inr ("touches" : Str) : Key), v8)]
theorem wF_segments {v0 v1 v2 v3 v4 v5 v6 v7 v8 : V} : valV (wF v0 v1 v2 v3 v4 v5 v6 v7 v8) (Sum.inr ("segments" : Str) : Key) = some v0 := by unfold wF; rw [valV_pos rfl]
theorem wF_base {v0 v1 v2 v3 v4 v5 v6 v7 v8 : V} : valV (wF v0 v1 v2 v3 v4 v5 v6 v7 v8) (Sum.inr ("base" : Str) : Key) = some v1 := by unfold wF; rw [valV_neg (by dsimp only; decide +kernel)]; rw [valV_pos rfl]
theorem wF_ring {v0 v1 v2 v3 v4 v5 v6 v7 v8 : V} : valV (wF v0 v1 v2 v3 v4 v5 v6 v7 v8) (Sum.inr ("ring" : Str) : Key) = some v2 := by unfold wF; rw [valV_neg (by dsimp only; decide +kernel)]; rw [valV_neg (by dsimp only; decide +kernel)]; rw [valV_pos rfl]
theorem wF_a {v0 v1 v2 v3 v4 v5 v6 v7 v8 : V} : valV (wF v0 v1 v2 v3 v4 v5 v6 v7 v8) (Sum.inr ("a" : Str) : Key) = some v3 := by unfold wF; rw [valV_neg (by dsimp only; decide +kernel)]; rw [valV_neg (by dsimp only; decide +kernel)]; rw [valV_neg (by dsimp only; decide +kernel)]; rw [valV_pos rfl]
theorem wF_pointers {v0 v1 v2 v3 v4 v5 v6 v7 v8 : V} : valV (wF v0 v1 v2 v3 v4 v5 v6 v7 v8) (Sum.inr ("pointers" : Str) : Key) = some v4 := by unfold wF; rw [valV_neg (by dsimp only; decide +kernel)]; rw [valV_neg (by dsimp only; decide +kernel)]; rw [valV_neg (by dsimp only; decide +kernel)]; rw [valV_neg (by dsimp only; decide +kernel)]; rw [valV_pos rfl]
theorem wF_calls {v0 v1 v2 v3 v4 v5 v6 v7 v8 : V} : valV (wF v0 v1 v2 v3 v4 v5 v6 v7 v8) (Sum.inr ("calls" : Str) : Key) = some v5 := by unfold wF; rw [valV_neg (by dsimp only; decide +kernel)]; rw [valV_neg (by dsimp only; decide +kernel)]; rw [valV_neg (by dsimp only; decide +kernel)]; rw [valV_neg (by dsimp only; decide +kernel)]; rw [valV_neg (by dsimp only; decide +kernel)]; rw [valV_pos rfl]
theorem wF_memory {v0 v1 v2 v3 v4 v5 v6 v7 v8 : V} : valV (wF v0 v1 v2 v3 v4 v5 v6 v7 v8) (Sum.inr ("memory" : Str) : Key) = some v6 := by unfold wF; rw [valV_neg (by dsimp only; decide +kernel)]; rw [valV_neg (by dsimp only; decide +kernel)]; rw [valV_neg (by dsimp only; decide +kernel)]; rw [valV_neg (by dsimp only; decide +kernel)]; rw [valV_neg (by dsimp only; decide +kernel)]; rw [valV_neg (by dsimp only; decide +kernel)]; rw [valV_pos rfl]
theorem wF_at {v0 v1 v2 v3 v4 v5 v6 v7 v8 : V} : valV (wF v0 v1 v2 v3 v4 v5 v6 v7 v8) (Sum.inr ("at" : Str) : Key) = some v7 := by unfold wF; rw [valV_neg (by dsimp only; decide +kernel)]; rw [valV_neg (by dsimp only; decide +kernel)]; rw [valV_neg (by dsimp only; decide +kernel)]; rw [valV_neg (by dsimp only; decide +kernel)]; rw [valV_neg (by dsimp only; decide +kernel)]; rw [valV_neg (by dsimp only; decide +kernel)]; rw [valV_neg (by dsimp only; decide +kernel)]; rw [valV_pos rfl]
theorem wF_touches {v0 v1 v2 v3 v4 v5 v6 v7 v8 : V} : valV (wF v0 v1 v2 v3 v4 v5 v6 v7 v8) (Sum.inr ("touches" : Str) : Key) = some v8 := by unfold wF; rw [valV_neg (by dsimp only; decide +kernel)]; rw [valV_neg (by dsimp only; decide +kernel)]; rw [valV_neg (by dsimp only; decide +kernel)]; rw [valV_neg (by dsimp only; decide +kernel)]; rw [valV_neg (by dsimp only; decide +kernel)]; rw [valV_neg (by dsimp only; decide +kernel)]; rw [valV_neg (by dsimp only; decide +kernel)]; rw [valV_neg (by dsimp only; decide +kernel)]; rw [valV_pos rfl]
theorem pw_ring {v0 v1 v2 v3 v4 v5 v6 v7 v8 y : V} : putK (wF v0 v1 v2 v3 v4 v5 v6 v7 v8) (Sum.inr ("ring" : Str) : Key) y = wF v0 v1 y v3 v4 v5 v6 v7 v8 := by unfold wF; rw [put_neg (by dsimp only; decide +kernel) (by rw [valV_neg (by dsimp only; decide +kernel)]; rw [valV_pos rfl]; rfl)]; rw [put_neg (by dsimp only; decide +kernel) (by rw [valV_pos rfl]; rfl)]; rw [put_pos (by rw [valV_neg (by dsimp only; decide +kernel)]; rw [valV_neg (by dsimp only; decide +kernel)]; rw [valV_neg (by dsimp only; decide +kernel)]; rw [valV_neg (by dsimp only; decide +kernel)]; rw [valV_neg (by dsimp only; decide +kernel)]; rw [valV_neg (by dsimp only; decide +kernel)]; rfl)]
theorem pw_a {v0 v1 v2 v3 v4 v5 v6 v7 v8 y : V} : putK (wF v0 v1 v2 v3 v4 v5 v6 v7 v8) (Sum.inr ("a" : Str) : Key) y = wF v0 v1 v2 y v4 v5 v6 v7 v8 := by unfold wF; rw [put_neg (by dsimp only; decide +kernel) (by rw [valV_neg (by dsimp only; decide +kernel)]; rw [valV_neg (by dsimp only; decide +kernel)]; rw [valV_pos rfl]; rfl)]; rw [put_neg (by dsimp only; decide +kernel) (by rw [valV_neg (by dsimp only; decide +kernel)]; rw [valV_pos rfl]; rfl)]; rw [put_neg (by dsimp only; decide +kernel) (by rw [valV_pos rfl]; rfl)]; rw [put_pos (by rw [valV_neg (by dsimp only; decide +kernel)]; rw [valV_neg (by dsimp only; decide +kernel)]; rw [valV_neg (by dsimp only; decide +kernel)]; rw [valV_neg (by dsimp only; decide +kernel)]; rw [valV_neg (by dsimp only; decide +kernel)]; rfl)]
theorem pw_pointers {v0 v1 v2 v3 v4 v5 v6 v7 v8 y : V} : putK (wF v0 v1 v2 v3 v4 v5 v6 v7 v8) (Sum.inr ("pointers" : Str) : Key) y = wF v0 v1 v2 v3 y v5 v6 v7 v8 := by unfold wF; rw [put_neg (by dsimp only; decide +kernel) (by rw [valV_neg (by dsimp only; decide +kernel)]; rw [valV_neg (by dsimp only; decide +kernel)]; rw [valV_neg (by dsimp only; decide +kernel)]; rw [valV_pos rfl]; rfl)]; rw [put_neg (by dsimp only; decide +kernel) (by rw [valV_neg (by dsimp only; decide +kernel)]; rw [valV_neg (by dsimp only; decide +kernel)]; rw [valV_pos rfl]; rfl)]; rw [put_neg (by dsimp only; decide +kernel) (by rw [valV_neg (by dsimp only; decide +kernel)]; rw [valV_pos rfl]; rfl)]; rw [put_neg (by dsimp only; decide +kernel) (by rw [valV_pos rfl]; rfl)]; rw [put_pos (by rw [valV_neg (by dsimp only; decide +kernel)]; rw [valV_neg (by dsimp only; decide +kernel)]; rw [valV_neg (by dsimp only; decide +kernel)]; rw [valV_neg (by dsimp only; decide +kernel)]; rfl)]
theorem pw_at {v0 v1 v2 v3 v4 v5 v6 v7 v8 y : V} : putK (wF v0 v1 v2 v3 v4 v5 v6 v7 v8) (Sum.inr ("at" : Str) : Key) y = wF v0 v1 v2 v3 v4 v5 v6 y v8 := by unfold wF; rw [put_neg (by dsimp only; decide +kernel) (by rw [valV_neg (by dsimp only; decide +kernel)]; rw [valV_neg (by dsimp only; decide +kernel)]; rw [valV_neg (by dsimp only; decide +kernel)]; rw [valV_neg (by dsimp only; decide +kernel)]; rw [valV_neg (by dsimp only; decide +kernel)]; rw [valV_neg (by dsimp only; decide +kernel)]; rw [valV_pos rfl]; rfl)]; rw [put_neg (by dsimp only; decide +kernel) (by rw [valV_neg (by dsimp only; decide +kernel)]; rw [valV_neg (by dsimp only; decide +kernel)]; rw [valV_neg (by dsimp only; decide +kernel)]; rw [valV_neg (by dsimp only; decide +kernel)]; rw [valV_neg (by dsimp only; decide +kernel)]; rw [valV_pos rfl]; rfl)]; rw [put_neg (by dsimp only; decide +kernel) (by rw [valV_neg (by dsimp only; decide +kernel)]; rw [valV_neg (by dsimp only; decide +kernel)]; rw [valV_neg (by dsimp only; decide +kernel)]; rw [valV_neg (by dsimp only; decide +kernel)]; rw [valV_pos rfl]; rfl)]; rw [put_neg (by dsimp only; decide +kernel) (by rw [valV_neg (by dsimp only; decide +kernel)]; rw [valV_neg (by dsimp only; decide +kernel)]; rw [valV_neg (by dsimp only; decide +kernel)]; rw [valV_pos rfl]; rfl)]; rw [put_neg (by dsimp only; decide +kernel) (by rw [valV_neg (by dsimp only; decide +kernel)]; rw [valV_neg (by dsimp only; decide +kernel)]; rw [valV_pos rfl]; rfl)]; rw [put_neg (by dsimp only; decide +kernel) (by rw [valV_neg (by dsimp only; decide +kernel)]; rw [valV_pos rfl]; rfl)]; rw [put_neg (by dsimp only; decide +kernel) (by rw [valV_pos rfl]; rfl)]; rw [put_pos (by rw [valV_neg (by dsimp only; decide +kernel)]; rfl)]
theorem pb_calls {v0 v1 v2 v3 v4 v5 : V} : putK ([((Sum.inr ("segments" : Str) : Key), v0), ((Sum.inr ("base" : Str) : Key), v1), ((Sum.inr ("ring" : Str) : Key), v2), ((Sum.inr ("a" : Str) : Key), v3), ((Sum.inr ("pointers" : Str) : Key), v4)] : List (Key × V)) (Sum.inr ("calls" : Str) : Key) v5 = ([((Sum.inr ("segments" : Str) : Key), v0), ((Sum.inr ("base" : Str) : Key), v1), ((Sum.inr ("ring" : Str) : Key), v2), ((Sum.inr ("a" : Str) : Key), v3), ((Sum.inr ("pointers" : Str) : Key), v4), ((Sum.inr ("calls" : Str) : Key), v5)] : List (Key × V)) := by rw [put_no (by rw [valV_neg (by dsimp only; decide +kernel)]; rw [valV_neg (by dsimp only; decide +kernel)]; rw [valV_neg (by dsimp only; decide +kernel)]; rw [valV_neg (by dsimp only; decide +kernel)]; rw [valV_neg (by dsimp only; decide +kernel)]; rfl)]; rfl
theorem pb_memory {v0 v1 v2 v3 v4 v5 v6 : V} : putK ([((Sum.inr ("segments" : Str) : Key), v0), ((Sum.inr ("base" : Str) : Key), v1), ((Sum.inr ("ring" : Str) : Key), v2), ((Sum.inr ("a" : Str) : Key), v3), ((Sum.inr ("pointers" : Str) : Key), v4), ((Sum.inr ("calls" : Str) : Key), v5)] : List (Key × V)) (Sum.inr ("memory" : Str) : Key) v6 = ([((Sum.inr ("segments" : Str) : Key), v0), ((Sum.inr ("base" : Str) : Key), v1), ((Sum.inr ("ring" : Str) : Key), v2), ((Sum.inr ("a" : Str) : Key), v3), ((Sum.inr ("pointers" : Str) : Key), v4), ((Sum.inr ("calls" : Str) : Key), v5), ((Sum.inr ("memory" : Str) : Key), v6)] : List (Key × V)) := by rw [put_no (by rw [valV_neg (by dsimp only; decide +kernel)]; rw [valV_neg (by dsimp only; decide +kernel)]; rw [valV_neg (by dsimp only; decide +kernel)]; rw [valV_neg (by dsimp only; decide +kernel)]; rw [valV_neg (by dsimp only; decide +kernel)]; rw [valV_neg (by dsimp only; decide +kernel)]; rfl)]; rfl
theorem pb_at {v0 v1 v2 v3 v4 v5 v6 v7 : V} : putK ([((Sum.inr ("segments" : Str) : Key), v0), ((Sum.inr ("base" : Str) : Key), v1), ((Sum.inr ("ring" : Str) : Key), v2), ((Sum.inr ("a" : Str) : Key), v3), ((Sum.inr ("pointers" : Str) : Key), v4), ((Sum.inr ("calls" : Str) : Key), v5), ((Sum.inr ("memory" : Str) : Key), v6)] : List (Key × V)) (Sum.inr ("at" : Str) : Key) v7 = ([((Sum.inr ("segments" : Str) : Key), v0), ((Sum.inr ("base" : Str) : Key), v1), ((Sum.inr ("ring" : Str) : Key), v2), ((Sum.inr ("a" : Str) : Key), v3), ((Sum.inr ("pointers" : Str) : Key), v4), ((Sum.inr ("calls" : Str) : Key), v5), ((Sum.inr ("memory" : Str) : Key), v6), ((Sum.inr ("at" : Str) : Key), v7)] : List (Key × V)) := by rw [put_no (by rw [valV_neg (by dsimp only; decide +kernel)]; rw [valV_neg (by dsimp only; decide +kernel)]; rw [valV_neg (by dsimp only; decide +kernel)]; rw [valV_neg (by dsimp only; decide +kernel)]; rw [valV_neg (by dsimp only; decide +kernel)]; rw [valV_neg (by dsimp only; decide +kernel)]; rw [valV_neg (by dsimp only; decide +kernel)]; rfl)]; rfl
theorem pb_touches {v0 v1 v2 v3 v4 v5 v6 v7 v8 : V} : putK ([((Sum.inr ("segments" : Str) : Key), v0), ((Sum.inr ("base" : Str) : Key), v1), ((Sum.inr ("ring" : Str) : Key), v2), ((Sum.inr ("a" : Str) : Key), v3), ((Sum.inr ("pointers" : Str) : Key), v4), ((Sum.inr ("calls" : Str) : Key), v5), ((Sum.inr ("memory" : Str) : Key), v6), ((Sum.inr ("at" : Str) : Key), v7)] : List (Key × V)) (Sum.inr ("touches" : Str) : Key) v8 = ([((Sum.inr ("segments" : Str) : Key), v0), ((Sum.inr ("base" : Str) : Key), v1), ((Sum.inr ("ring" : Str) : Key), v2), ((Sum.inr ("a" : Str) : Key), v3), ((Sum.inr ("pointers" : Str) : Key), v4), ((Sum.inr ("calls" : Str) : Key), v5), ((Sum.inr ("memory" : Str) : Key), v6), ((Sum.inr ("at" : Str) : Key), v7), ((Sum.inr ("touches" : Str) : Key), v8)] : List (Key × V)) := by rw [put_no (by rw [valV_neg (by dsimp only; decide +kernel)]; rw [valV_neg (by dsimp only; decide +kernel)]; rw [valV_neg (by dsimp only; decide +kernel)]; rw [valV_neg (by dsimp only; decide +kernel)]; rw [valV_neg (by dsimp only; decide +kernel)]; rw [valV_neg (by dsimp only; decide +kernel)]; rw [valV_neg (by dsimp only; decide +kernel)]; rw [valV_neg (by dsimp only; decide +kernel)]; rfl)]; rfl
theorem pb_base {v0 v1 : V} : putK ([((Sum.inr ("segments" : Str) : Key), v0)] : List (Key × V)) (Sum.inr ("base" : Str) : Key) v1 = ([((Sum.inr ("segments" : Str) : Key), v0), ((Sum.inr ("base" : Str) : Key), v1)] : List (Key × V)) := by rw [put_no (by rw [valV_neg (by dsimp only; decide +kernel)]; rfl)]; rfl
theorem pb_ring {v0 v1 v2 : V} : putK ([((Sum.inr ("segments" : Str) : Key), v0), ((Sum.inr ("base" : Str) : Key), v1)] : List (Key × V)) (Sum.inr ("ring" : Str) : Key) v2 = ([((Sum.inr ("segments" : Str) : Key), v0), ((Sum.inr ("base" : Str) : Key), v1), ((Sum.inr ("ring" : Str) : Key), v2)] : List (Key × V)) := by rw [put_no (by rw [valV_neg (by dsimp only; decide +kernel)]; rw [valV_neg (by dsimp only; decide +kernel)]; rfl)]; rfl
theorem pb_a {v0 v1 v2 v3 : V} : putK ([((Sum.inr ("segments" : Str) : Key), v0), ((Sum.inr ("base" : Str) : Key), v1), ((Sum.inr ("ring" : Str) : Key), v2)] : List (Key × V)) (Sum.inr ("a" : Str) : Key) v3 = ([((Sum.inr ("segments" : Str) : Key), v0), ((Sum.inr ("base" : Str) : Key), v1), ((Sum.inr ("ring" : Str) : Key), v2), ((Sum.inr ("a" : Str) : Key), v3)] : List (Key × V)) := by rw [put_no (by rw [valV_neg (by dsimp only; decide +kernel)]; rw [valV_neg (by dsimp only; decide +kernel)]; rw [valV_neg (by dsimp only; decide +kernel)]; rfl)]; rfl
theorem pb_pointers {v0 v1 v2 v3 v4 : V} : putK ([((Sum.inr ("segments" : Str) : Key), v0), ((Sum.inr ("base" : Str) : Key), v1), ((Sum.inr ("ring" : Str) : Key), v2), ((Sum.inr ("a" : Str) : Key), v3)] : List (Key × V)) (Sum.inr ("pointers" : Str) : Key) v4 = ([((Sum.inr ("segments" : Str) : Key), v0), ((Sum.inr ("base" : Str) : Key), v1), ((Sum.inr ("ring" : Str) : Key), v2), ((Sum.inr ("a" : Str) : Key), v3), ((Sum.inr ("pointers" : Str) : Key), v4)] : List (Key × V)) := by rw [put_no (by rw [valV_neg (by dsimp only; decide +kernel)]; rw [valV_neg (by dsimp only; decide +kernel)]; rw [valV_neg (by dsimp only; decide +kernel)]; rw [valV_neg (by dsimp only; decide +kernel)]; rfl)]; rfl
theorem pb_merge {v0 v1 v2 v3 v4 : V} : mergeK [] ([((Sum.inr ("segments" : Str) : Key), v0), ((Sum.inr ("base" : Str) : Key), v1), ((Sum.inr ("ring" : Str) : Key), v2), ((Sum.inr ("a" : Str) : Key), v3), ((Sum.inr ("pointers" : Str) : Key), v4)] : List (Key × V)) = ([((Sum.inr ("segments" : Str) : Key), v0), ((Sum.inr ("base" : Str) : Key), v1), ((Sum.inr ("ring" : Str) : Key), v2), ((Sum.inr ("a" : Str) : Key), v3), ((Sum.inr ("pointers" : Str) : Key), v4)] : List (Key × V)) := by unfold mergeK; rw [List.foldl_cons, show putK ([] : List (Key × V)) (Sum.inr ("segments" : Str) : Key) v0 = [((Sum.inr ("segments" : Str) : Key), v0)] from put_no rfl, List.foldl_cons, pb_base, List.foldl_cons, pb_ring, List.foldl_cons, pb_a, List.foldl_cons, pb_pointers, List.foldl_nil]
/-- the world while the hand is at it -/
structure WA (H : Hp) (wd L : Addr) (b : Int) (lp lc lm lt : Addr) (as : List Addr) (s : Rn) : Prop where
  hx : H wd = some (.dK (wF (.ref L) (.int b) (.int s.ring) (.int s.a) (.ref lp) (.ref lc) (.ref lm) .non (.ref lt)))
  hp : ∃ v, H lp = some (.lst v) ∧ RpAll H v (s.pt.map ptD)
  hc : H lc = some (.lst [])
  hm : H lm = some (.lst (as.map V.ref))
  la : as.length = s.me.length
  ha : ∀ (i : Nat) (a : Addr) (ws : List Wd), as[i]? = some a → s.me[i]? = some ws → ∃ v, H a = some (.lst v) ∧ RpAll H v (ws.map Wd.d)
  ht : ∃ v, H lt = some (.lst v) ∧ RpAll H v (s.to.map toD)
  nd : (lp :: lc :: lm :: lt :: as).Nodup
section
variable {H H' : Hp} {wd L lp lc lm lt : Addr} {b : Int} {as : List Addr} {s : Rn}
theorem WA.same (R : WA H wd L b lp lc lm lt as s) (e : Same H H') : WA H' wd L b lp lc lm lt as s where
  hx := e _ _ R.hx
  hp := let ⟨v, h, r⟩ := R.hp; ⟨v, e _ _ h, r.keep (Tk.of e)⟩
  hc := e _ _ R.hc
  hm := e _ _ R.hm
  la := R.la
  ha := fun i a ws h1 h2 => let ⟨v, h, r⟩ := R.ha i a ws h1 h2; ⟨v, e _ _ h, r.keep (Tk.of e)⟩
  ht := let ⟨v, h, r⟩ := R.ht; ⟨v, e _ _ h, r.keep (Tk.of e)⟩
  nd := R.nd
theorem Tk.dct {q : Addr} {o : HO} {kvs : List (Key × V)} (h : H q = some (.dK kvs)) : Tk H (upd H q o) := fun c xs e => by rw [upd_ne (ne_of e h (fun z => nomatch z))]; exact e
/-- a becomes another number -/
theorem WA.setA (R : WA H wd L b lp lc lm lt as s) (n : Int) : WA (upd H wd (.dK (putK (wF (.ref L) (.int b) (.int s.ring) (.int s.a) (.ref lp) (.ref lc) (.ref lm) .non (.ref lt)) (Sum.inr ("a" : Str) : Key) (.int n)))) wd L b lp lc lm lt as { s with a := n } := by
  rw [pw_a]
  have tk : Tk H (upd H wd (.dK (wF (.ref L) (.int b) (.int s.ring) (.int n) (.ref lp) (.ref lc) (.ref lm) .non (.ref lt)))) := Tk.dct R.hx
  have ne : ∀ {q : Addr} {v : List V}, H q = some (.lst v) → upd H wd (.dK (wF (.ref L) (.int b) (.int s.ring) (.int n) (.ref lp) (.ref lc) (.ref lm) .non (.ref lt))) q = some (.lst v) := fun {q v} h => (upd_ne (ne_of h R.hx (fun z => nomatch z))).trans h
  exact ⟨upd_same, let ⟨v, h, r⟩ := R.hp; ⟨v, ne h, r.keep tk⟩, ne R.hc, ne R.hm, R.la, fun i a ws h1 h2 => let ⟨v, h, r⟩ := R.ha i a ws h1 h2; ⟨v, ne h, r.keep tk⟩, let ⟨v, h, r⟩ := R.ht; ⟨v, ne h, r.keep tk⟩, R.nd⟩
theorem WA.wne (R : WA H wd L b lp lc lm lt as s) {q : Addr} {v : List V} (h : H q = some (.lst v)) : q ≠ wd := ne_of h R.hx (fun z => nomatch z)
theorem WA.setT (R : WA H wd L b lp lc lm lt as s) {v1 : List V} {to : List (Int × Int × Int × Str)} (r : RpAll H v1 (to.map toD)) : WA (upd H lt (.lst v1)) wd L b lp lc lm lt as { s with to := to } := by
  obtain ⟨v0, h0, _⟩ := R.ht
  have tk : Tk H (upd H lt (.lst v1)) := Tk.lst h0
  have hn := R.nd
  simp only [List.nodup_cons, List.mem_cons, not_or] at hn
  obtain ⟨⟨a1, a2, a3, a4⟩, ⟨b1, b2, b3⟩, ⟨c1, c2⟩, d1, n⟩ := hn
  exact ⟨(upd_ne (Ne.symm (R.wne h0))).trans R.hx, let ⟨v, h, r⟩ := R.hp; ⟨v, (upd_ne a3).trans h, r.keep tk⟩, (upd_ne b2).trans R.hc, (upd_ne c1).trans R.hm, R.la, fun i a ws h1 h2 => let ⟨v, h, r⟩ := R.ha i a ws h1 h2; ⟨v, (upd_ne (show a ≠ lt from fun z => d1 (z ▸ List.mem_of_getElem? h1))).trans h, r.keep tk⟩, ⟨v1, upd_same, r.keep tk⟩, R.nd⟩
theorem WA.setM (R : WA H wd L b lp lc lm lt as s) {g : Nat} {q : Addr} {v1 : List V} {ws : List Wd} (hq : as[g]? = some q) (r : RpAll H v1 (ws.map Wd.d)) : WA (upd H q (.lst v1)) wd L b lp lc lm lt as { s with me := s.me.set g ws } := by
  have hg : g < s.me.length := R.la ▸ (List.getElem?_eq_some_iff.mp hq).1
  obtain ⟨v0, h0, _⟩ := R.ha g q _ hq (List.getElem?_eq_getElem hg)
  have tk : Tk H (upd H q (.lst v1)) := Tk.lst h0
  have hn := R.nd
  simp only [List.nodup_cons, List.mem_cons, not_or] at hn
  obtain ⟨⟨a1, a2, a3, a4⟩, ⟨b1, b2, b3⟩, ⟨c1, c2⟩, d1, n⟩ := hn
  have mq := List.mem_of_getElem? hq
  refine ⟨(upd_ne (Ne.symm (R.wne h0))).trans R.hx, let ⟨v, h, r⟩ := R.hp; ⟨v, (upd_ne (show lp ≠ q from fun z => a4 (z.symm ▸ mq))).trans h, r.keep tk⟩, (upd_ne (show lc ≠ q from fun z => b3 (z.symm ▸ mq))).trans R.hc, (upd_ne (show lm ≠ q from fun z => c2 (z.symm ▸ mq))).trans R.hm, by show as.length = (s.me.set g ws).length; rw [List.length_set]; exact R.la, fun i a ws' h1 h2 => ?_, let ⟨v, h, r⟩ := R.ht; ⟨v, (upd_ne (show lt ≠ q from fun z => d1 (z.symm ▸ mq))).trans h, r.keep tk⟩, R.nd⟩
  have h2' : (s.me.set g ws)[i]? = some ws' := h2
  by_cases e : i = g
  · subst e
    rw [List.getElem?_set_self hg] at h2'
    cases h2'
    rw [hq] at h1
    cases h1
    exact ⟨v1, upd_same, r.keep tk⟩
  · rw [List.getElem?_set_ne (Ne.symm e)] at h2'
    obtain ⟨v, e1, e2⟩ := R.ha i a ws' h1 h2'
    refine ⟨v, (upd_ne fun z => e ?_).trans e1, e2.keep tk⟩
    have l1 := (List.getElem?_eq_some_iff.mp h1)
    have l2 := (List.getElem?_eq_some_iff.mp hq)
    exact (List.getElem_inj (h₀ := l1.1) (h₁ := l2.1) n).mp (l1.2.trans (z.trans l2.2.symm))
end
theorem rd_dget {td ty : TE} {σ : L2.St} {H : Hp} {Q : VK} (h : td σ H fun x H1 => ty σ H1 fun y H2 => ∃ a v, x = V.ref a ∧ DGet H2 a y (some v) ∧ Q v H2) : tDGet td ty σ H Q := h
theorem dg {H : Hp} {a : Addr} {kvs : List (Key × V)} {k : Str} {v : V} (e : H a = some (.dK kvs)) (h : valV kvs (Sum.inr k) = some v) : DGet H a (.str k) (some v) := h ▸ DGet.k (k := Sum.inr k) e
theorem rd_dput {td ty tv : TE} {D : Ends} {σ : L2.St} {H : Hp} (h : tv σ H fun v H1 => td σ H1 fun x H2 => ty σ H2 fun y H3 => ∃ a H4, x = V.ref a ∧ DPut H3 a y v H4 ∧ D.nx σ H4) : sDPut td ty tv D σ H := h
end Rg

/-! pointers by the hand -/
namespace Rg
open PySem PySem.Spec PyProof.Rows L2
theorem mx2 {a b : Int} : nuMax2 (.int a) (.int b) = some (.int (mx a b)) := by
  have h : nuLt (.int a) (.int b) = some (decide (a < b)) := rfl
  unfold nuMax2 mx
  rw [h]
  by_cases c : a < b
  · rw [decide_eq_true c, if_pos (show b > a from c)]; rfl
  · rw [decide_eq_false c, if_neg (show ¬ b > a from c)]; rfl
theorem mx3 {a b c : Int} : nuMax3 (.int a) (.int b) (.int c) = some (.int (mx (mx a b) c)) := by
  unfold nuMax3
  rw [mx2]
  exact mx2
theorem rd_max3 {a b c : Int} {H : Hp} {Q : VK} (h : Q (.int (mx (mx a b) c)) H) : rNuC3 nuMax3 [.int a, .int b, .int c] H Q := ⟨_, _, _, _, rfl, mx3, h⟩
section
variable {H H' : Hp} {wd L lp lc lm lt : Addr} {b : Int} {as : List Addr} {s : Rn}
theorem WA.setP (R : WA H wd L b lp lc lm lt as s) {v1 : List V} {pt : List Pt} (r : RpAll H v1 (pt.map ptD)) : WA (upd H lp (.lst v1)) wd L b lp lc lm lt as { s with pt := pt } := by
  obtain ⟨v0, h0, _⟩ := R.hp
  have tk : Tk H (upd H lp (.lst v1)) := Tk.lst h0
  have hn := R.nd
  simp only [List.nodup_cons, List.mem_cons, not_or] at hn
  obtain ⟨⟨a1, a2, a3, a4⟩, ⟨b1, b2, b3⟩, ⟨c1, c2⟩, d1, n⟩ := hn
  exact ⟨(upd_ne (Ne.symm (R.wne h0))).trans R.hx, ⟨v1, upd_same, r.keep tk⟩, (upd_ne (Ne.symm a1)).trans R.hc, (upd_ne (Ne.symm a2)).trans R.hm, R.la, fun i a ws h1 h2 => let ⟨v, h, r⟩ := R.ha i a ws h1 h2; ⟨v, (upd_ne (show a ≠ lp from fun z => a4 (z ▸ List.mem_of_getElem? h1))).trans h, r.keep tk⟩, let ⟨v, h, r⟩ := R.ht; ⟨v, (upd_ne (Ne.symm a3)).trans h, r.keep tk⟩, R.nd⟩
end
end Rg

/-! the law's own world, rows that run too -/
namespace Rg
open PySem PySem.Spec PyProof.Rows L2
/-- where the rows run: None, or a list of two -/
def AtV (H : Hp) (no : List Addr) (va : V) : Option (Int × Int) → Prop
  | none => va = .non
  | some (g, p) => ∃ q, va = .ref q ∧ H q = some (.lst [.int g, .int p]) ∧ q ∉ no
def CaAll (H : Hp) (no : List Addr) : List V → List (Int × Option (Int × Int)) → Prop
  | [], [] => True
  | u :: v, c :: r => (∃ q va, u = .ref q ∧ H q = some (.tup [.int c.1, va]) ∧ AtV H no va c.2) ∧ CaAll H no v r
  | _, _ => False
theorem AtV.keep {H H' : Hp} {no no' : List Addr} {va : V} (h : ∀ q v, H q = some (.lst v) → q ∉ no → H' q = some (.lst v) ∧ q ∉ no') : ∀ {w : Option (Int × Int)}, AtV H no va w → AtV H' no' va w
  | none, e => e
  | some (_, _), ⟨q, e, h1, h2⟩ => ⟨q, e, (h q _ h1 h2).1, (h q _ h1 h2).2⟩
theorem CaAll.keep {H H' : Hp} {no no' : List Addr} (h : ∀ q v, H q = some (.lst v) → q ∉ no → H' q = some (.lst v) ∧ q ∉ no') (tk : Tk H H') : ∀ {v : List V} {ca : List (Int × Option (Int × Int))}, CaAll H no v ca → CaAll H' no' v ca
  | [], [], _ => trivial
  | _ :: _, _ :: _, ⟨⟨q, va, e, h1, h2⟩, t⟩ => ⟨⟨q, va, e, tk _ _ h1, h2.keep h⟩, CaAll.keep h tk t⟩
  | [], _ :: _, h => h.elim
  | _ :: _, [], h => h.elim
theorem CaAll.len {H : Hp} {no : List Addr} : ∀ {v : List V} {ca : List (Int × Option (Int × Int))}, CaAll H no v ca → v.length = ca.length
  | [], [], _ => rfl
  | _ :: _, _ :: _, ⟨_, t⟩ => by rw [List.length_cons, List.length_cons, t.len]
  | [], _ :: _, h => h.elim
  | _ :: _, [], h => h.elim
theorem CaAll.snoc {H : Hp} {no : List Addr} {u : V} {c : Int × Option (Int × Int)} (hu : ∃ q va, u = .ref q ∧ H q = some (.tup [.int c.1, va]) ∧ AtV H no va c.2) : ∀ {v : List V} {ca : List (Int × Option (Int × Int))}, CaAll H no v ca → CaAll H no (v ++ [u]) (ca ++ [c])
  | [], [], _ => ⟨hu, trivial⟩
  | _ :: _, _ :: _, ⟨h, t⟩ => ⟨h, t.snoc hu⟩
  | [], _ :: _, h => h.elim
  | _ :: _, [], h => h.elim
theorem CaAll.unsnoc {H : Hp} {no : List Addr} : ∀ {v : List V} {ca : List (Int × Option (Int × Int))} {c : Int × Option (Int × Int)}, CaAll H no v ca → ca.getLast? = some c → ∃ v' q va, v = v' ++ [.ref q] ∧ H q = some (.tup [.int c.1, va]) ∧ AtV H no va c.2 ∧ CaAll H no v' ca.dropLast
  | [], [], _, _, e => by cases e
  | [u], [c1], c, ⟨⟨q, va, e0, h1, h2⟩, _⟩, e => by
    subst e0
    cases e
    exact ⟨[], q, va, rfl, h1, h2, trivial⟩
  | u :: u' :: v, c1 :: c2 :: r, c, ⟨h, t⟩, e => by
    rw [List.getLast?_cons_cons] at e
    obtain ⟨v', q, va, e1, h1, h2, t'⟩ := CaAll.unsnoc t e
    exact ⟨u :: v', q, va, by rw [e1]; rfl, h1, h2, h, t'⟩
  | [_], _ :: _ :: _, _, ⟨_, h⟩, _ => h.elim
  | _ :: _ :: _, [_], _, ⟨_, h⟩, _ => h.elim
  | [], _ :: _, _, h, _ => h.elim
  | _ :: _, [], _, h, _ => h.elim
/-- the world while a deed is done -/
structure WG (H : Hp) (wd L : Addr) (b : Int) (lp lc lm lt : Addr) (as : List Addr) (va : V) (s : Rn) : Prop where
  hx : H wd = some (.dK (wF (.ref L) (.int b) (.int s.ring) (.int s.a) (.ref lp) (.ref lc) (.ref lm) va (.ref lt)))
  hp : ∃ v, H lp = some (.lst v) ∧ RpAll H v (s.pt.map ptD)
  hc : ∃ v, H lc = some (.lst v) ∧ CaAll H (lp :: lc :: lm :: lt :: as) v s.ca
  hm : H lm = some (.lst (as.map V.ref))
  la : as.length = s.me.length
  ha : ∀ (i : Nat) (a : Addr) (ws : List Wd), as[i]? = some a → s.me[i]? = some ws → ∃ v, H a = some (.lst v) ∧ RpAll H v (ws.map Wd.d)
  ht : ∃ v, H lt = some (.lst v) ∧ RpAll H v (s.to.map toD)
  nd : (lp :: lc :: lm :: lt :: as).Nodup
  hv : AtV H (lp :: lc :: lm :: lt :: as) va s.wh
section
variable {H H' : Hp} {wd L lp lc lm lt : Addr} {b : Int} {as : List Addr} {va : V} {s : Rn}
theorem WG.same (R : WG H wd L b lp lc lm lt as va s) (e : Same H H') : WG H' wd L b lp lc lm lt as va s where
  hx := e _ _ R.hx
  hp := let ⟨v, h, r⟩ := R.hp; ⟨v, e _ _ h, r.keep (Tk.of e)⟩
  hc := let ⟨v, h, r⟩ := R.hc; ⟨v, e _ _ h, r.keep (fun q v h n => ⟨e _ _ h, n⟩) (Tk.of e)⟩
  hm := e _ _ R.hm
  la := R.la
  ha := fun i a ws h1 h2 => let ⟨v, h, r⟩ := R.ha i a ws h1 h2; ⟨v, e _ _ h, r.keep (Tk.of e)⟩
  ht := let ⟨v, h, r⟩ := R.ht; ⟨v, e _ _ h, r.keep (Tk.of e)⟩
  nd := R.nd
  hv := R.hv.keep fun q v h n => ⟨e _ _ h, n⟩
theorem WG.wne (R : WG H wd L b lp lc lm lt as va s) {q : Addr} {v : List V} (h : H q = some (.lst v)) : q ≠ wd := ne_of h R.hx (fun z => nomatch z)
/-- one of the lists becomes another -/
theorem WG.lists (R : WG H wd L b lp lc lm lt as va s) {q : Addr} {v0 v1 : List V} (hq : H q = some (.lst v0)) (hn : q ∈ lp :: lc :: lm :: lt :: as) (s' : Rn) (er : s'.ring = s.ring) (ea : s'.a = s.a) (ew : s'.wh = s.wh) (el : s'.me.length = s.me.length)
    (h1 : (q = lp ∧ RpAll H v1 (s'.pt.map ptD)) ∨ (q ≠ lp ∧ s'.pt = s.pt)) (h2 : (q = lc ∧ CaAll H (lp :: lc :: lm :: lt :: as) v1 s'.ca) ∨ (q ≠ lc ∧ s'.ca = s.ca)) (h3 : q ≠ lm) (h4 : (q = lt ∧ RpAll H v1 (s'.to.map toD)) ∨ (q ≠ lt ∧ s'.to = s.to))
    (h5 : ∀ (i : Nat) (a : Addr) (ws : List Wd), as[i]? = some a → s'.me[i]? = some ws → (a = q ∧ RpAll H v1 (ws.map Wd.d)) ∨ (a ≠ q ∧ s.me[i]? = some ws)) : WG (upd H q (.lst v1)) wd L b lp lc lm lt as va s' := by
  have tk : Tk H (upd H q (.lst v1)) := Tk.lst hq
  have kp : ∀ c v, H c = some (.lst v) → c ∉ lp :: lc :: lm :: lt :: as → upd H q (.lst v1) c = some (.lst v) ∧ c ∉ lp :: lc :: lm :: lt :: as := fun c v h n => ⟨(upd_ne fun (z : c = q) => n (by rw [z]; exact hn)).trans h, n⟩
  refine ⟨?_, ?_, ?_, (upd_ne (Ne.symm h3)).trans R.hm, R.la.trans el.symm, fun i a ws e1 e2 => ?_, ?_, R.nd, ?_⟩
  · rw [er, ea]
    exact (upd_ne (Ne.symm (R.wne hq))).trans R.hx
  · rcases h1 with ⟨rfl, h⟩ | ⟨h, e⟩
    · exact ⟨v1, upd_same, h.keep tk⟩
    · obtain ⟨v, e1, r⟩ := R.hp
      rw [e]
      exact ⟨v, (upd_ne (Ne.symm h)).trans e1, r.keep tk⟩
  · rcases h2 with ⟨rfl, h⟩ | ⟨h, e⟩
    · exact ⟨v1, upd_same, h.keep kp tk⟩
    · obtain ⟨v, e1, r⟩ := R.hc
      rw [e]
      exact ⟨v, (upd_ne (Ne.symm h)).trans e1, r.keep kp tk⟩
  · rcases h5 i a ws e1 e2 with ⟨rfl, h⟩ | ⟨h, e⟩
    · exact ⟨v1, upd_same, h.keep tk⟩
    · obtain ⟨v, e3, r⟩ := R.ha i a ws e1 e
      exact ⟨v, (upd_ne h).trans e3, r.keep tk⟩
  · rcases h4 with ⟨rfl, h⟩ | ⟨h, e⟩
    · exact ⟨v1, upd_same, h.keep tk⟩
    · obtain ⟨v, e1, r⟩ := R.ht
      rw [e]
      exact ⟨v, (upd_ne (Ne.symm h)).trans e1, r.keep tk⟩
  · rw [ew]
    exact R.hv.keep kp
theorem WG.setT (R : WG H wd L b lp lc lm lt as va s) {v1 : List V} {to : List (Int × Int × Int × Str)} (r : RpAll H v1 (to.map toD)) : WG (upd H lt (.lst v1)) wd L b lp lc lm lt as va { s with to := to } := by
  obtain ⟨v0, h0, _⟩ := R.ht
  have hn := R.nd
  simp only [List.nodup_cons, List.mem_cons, not_or] at hn
  obtain ⟨⟨a1, a2, a3, a4⟩, ⟨b1, b2, b3⟩, ⟨c1, c2⟩, d1, n⟩ := hn
  exact R.lists h0 (by simp) _ rfl rfl rfl rfl (.inr ⟨Ne.symm a3, rfl⟩) (.inr ⟨Ne.symm b2, rfl⟩) (Ne.symm c1) (.inl ⟨rfl, r⟩) fun i a ws e1 e2 => .inr ⟨fun z => d1 (z ▸ List.mem_of_getElem? e1), e2⟩
theorem WG.setP (R : WG H wd L b lp lc lm lt as va s) {v1 : List V} {pt : List Pt} (r : RpAll H v1 (pt.map ptD)) : WG (upd H lp (.lst v1)) wd L b lp lc lm lt as va { s with pt := pt } := by
  obtain ⟨v0, h0, _⟩ := R.hp
  have hn := R.nd
  simp only [List.nodup_cons, List.mem_cons, not_or] at hn
  obtain ⟨⟨a1, a2, a3, a4⟩, ⟨b1, b2, b3⟩, ⟨c1, c2⟩, d1, n⟩ := hn
  exact R.lists h0 (by simp) _ rfl rfl rfl rfl (.inl ⟨rfl, r⟩) (.inr ⟨a1, rfl⟩) a2 (.inr ⟨a3, rfl⟩) fun i a ws e1 e2 => .inr ⟨fun z => a4 (z ▸ List.mem_of_getElem? e1), e2⟩
theorem WG.setC (R : WG H wd L b lp lc lm lt as va s) {v1 : List V} {ca : List (Int × Option (Int × Int))} (r : CaAll H (lp :: lc :: lm :: lt :: as) v1 ca) : WG (upd H lc (.lst v1)) wd L b lp lc lm lt as va { s with ca := ca } := by
  obtain ⟨v0, h0, _⟩ := R.hc
  have hn := R.nd
  simp only [List.nodup_cons, List.mem_cons, not_or] at hn
  obtain ⟨⟨a1, a2, a3, a4⟩, ⟨b1, b2, b3⟩, ⟨c1, c2⟩, d1, n⟩ := hn
  exact R.lists h0 (by simp) _ rfl rfl rfl rfl (.inr ⟨Ne.symm a1, rfl⟩) (.inl ⟨rfl, r⟩) b1 (.inr ⟨b2, rfl⟩) fun i a ws e1 e2 => .inr ⟨fun z => b3 (z ▸ List.mem_of_getElem? e1), e2⟩
theorem WG.setM (R : WG H wd L b lp lc lm lt as va s) {g : Nat} {q : Addr} {v1 : List V} {ws : List Wd} (hq : as[g]? = some q) (r : RpAll H v1 (ws.map Wd.d)) : WG (upd H q (.lst v1)) wd L b lp lc lm lt as va { s with me := s.me.set g ws } := by
  have hg : g < s.me.length := R.la ▸ (List.getElem?_eq_some_iff.mp hq).1
  obtain ⟨v0, h0, _⟩ := R.ha g q _ hq (List.getElem?_eq_getElem hg)
  have hn := R.nd
  simp only [List.nodup_cons, List.mem_cons, not_or] at hn
  obtain ⟨⟨a1, a2, a3, a4⟩, ⟨b1, b2, b3⟩, ⟨c1, c2⟩, d1, n⟩ := hn
  have mq := List.mem_of_getElem? hq
  refine R.lists h0 (by simp [mq]) _ rfl rfl rfl (by show (s.me.set g ws).length = s.me.length; rw [List.length_set]) (.inr ⟨fun z => a4 (z ▸ mq), rfl⟩) (.inr ⟨fun z => b3 (z ▸ mq), rfl⟩) (fun z => c2 (z ▸ mq)) (.inr ⟨fun z => d1 (z ▸ mq), rfl⟩) fun i a ws' h1 h2 => ?_
  have h2' : (s.me.set g ws)[i]? = some ws' := h2
  by_cases e : i = g
  · subst e
    rw [List.getElem?_set_self hg] at h2'
    cases h2'
    rw [hq] at h1
    cases h1
    exact .inl ⟨rfl, r⟩
  · rw [List.getElem?_set_ne (Ne.symm e)] at h2'
    refine .inr ⟨fun z => e ?_, h2'⟩
    have l1 := (List.getElem?_eq_some_iff.mp h1)
    have l2 := (List.getElem?_eq_some_iff.mp hq)
    exact (List.getElem_inj (h₀ := l1.1) (h₁ := l2.1) n).mp (l1.2.trans (z.trans l2.2.symm))
/-- the dict becomes another -/
theorem WG.dict (R : WG H wd L b lp lc lm lt as va s) (s' : Rn) {va' : V} (ep : s'.pt = s.pt) (ec : s'.ca = s.ca) (em : s'.me = s.me) (et : s'.to = s.to) (hv : AtV H (lp :: lc :: lm :: lt :: as) va' s'.wh) :
    WG (upd H wd (.dK (wF (.ref L) (.int b) (.int s'.ring) (.int s'.a) (.ref lp) (.ref lc) (.ref lm) va' (.ref lt)))) wd L b lp lc lm lt as va' s' := by
  have tk : Tk H (upd H wd (.dK (wF (.ref L) (.int b) (.int s'.ring) (.int s'.a) (.ref lp) (.ref lc) (.ref lm) va' (.ref lt)))) := Tk.dct R.hx
  have ne : ∀ {q : Addr} {v : List V}, H q = some (.lst v) → upd H wd (.dK (wF (.ref L) (.int b) (.int s'.ring) (.int s'.a) (.ref lp) (.ref lc) (.ref lm) va' (.ref lt))) q = some (.lst v) := fun {q v} h => (upd_ne (ne_of h R.hx (fun z => nomatch z))).trans h
  exact ⟨upd_same, let ⟨v, h, r⟩ := R.hp; ⟨v, ne h, ep ▸ r.keep tk⟩, let ⟨v, h, r⟩ := R.hc; ⟨v, ne h, ec ▸ r.keep (fun q v h n => ⟨ne h, n⟩) tk⟩, ne R.hm, em ▸ R.la, fun i a ws h1 h2 => let ⟨v, h, r⟩ := R.ha i a ws h1 (em ▸ h2); ⟨v, ne h, r.keep tk⟩, let ⟨v, h, r⟩ := R.ht; ⟨v, ne h, et ▸ r.keep tk⟩, R.nd, hv.keep fun q v h n => ⟨ne h, n⟩⟩
theorem WG.setA (R : WG H wd L b lp lc lm lt as va s) (n : Int) : WG (upd H wd (.dK (putK (wF (.ref L) (.int b) (.int s.ring) (.int s.a) (.ref lp) (.ref lc) (.ref lm) va (.ref lt)) (Sum.inr ("a" : Str) : Key) (.int n)))) wd L b lp lc lm lt as va { s with a := n } := by
  rw [pw_a]
  exact R.dict { s with a := n } rfl rfl rfl rfl R.hv
/-- the pointers become another list -/
theorem WG.newP (R : WG H wd L b lp lc lm lt as va s) {lq : Addr} {v1 : List V} {pt : List Pt} (hq : H lq = some (.lst v1)) (r : RpAll H v1 (pt.map ptD)) (h2 : lq ∉ lp :: lc :: lm :: lt :: as) (hc : ∃ v, H lc = some (.lst v) ∧ CaAll H (lq :: lc :: lm :: lt :: as) v s.ca) (hv : AtV H (lq :: lc :: lm :: lt :: as) va s.wh) :
    WG (upd H wd (.dK (wF (.ref L) (.int b) (.int s.ring) (.int s.a) (.ref lq) (.ref lc) (.ref lm) va (.ref lt)))) wd L b lq lc lm lt as va { s with pt := pt } := by
  have tk : Tk H (upd H wd (.dK (wF (.ref L) (.int b) (.int s.ring) (.int s.a) (.ref lq) (.ref lc) (.ref lm) va (.ref lt)))) := Tk.dct R.hx
  have ne : ∀ {q : Addr} {v : List V}, H q = some (.lst v) → upd H wd (.dK (wF (.ref L) (.int b) (.int s.ring) (.int s.a) (.ref lq) (.ref lc) (.ref lm) va (.ref lt))) q = some (.lst v) := fun {q v} h => (upd_ne (ne_of h R.hx (fun z => nomatch z))).trans h
  have hn := R.nd
  simp only [List.mem_cons, not_or] at h2
  refine ⟨upd_same, ⟨v1, ne hq, r.keep tk⟩, let ⟨v, h, r⟩ := hc; ⟨v, ne h, r.keep (fun q v h n => ⟨ne h, n⟩) tk⟩, ne R.hm, R.la, fun i a ws h1 h2 => let ⟨v, h, r⟩ := R.ha i a ws h1 h2; ⟨v, ne h, r.keep tk⟩, let ⟨v, h, r⟩ := R.ht; ⟨v, ne h, r.keep tk⟩, ?_, hv.keep fun q v h n => ⟨ne h, n⟩⟩
  have hn' := (List.nodup_cons.mp hn).2
  refine List.nodup_cons.mpr ⟨?_, hn'⟩
  simp only [List.mem_cons, not_or]
  exact h2.2
end
/-- two readings of one def -/
theorem FnOk.or {P : Program} {w : World} {K : PySem.W.Frag} {mg : Str → Option Value} {base : Heap} {CX : CXT} {k : Nat} {f : Addr} {fd : FuncData} {ps : List Str} {sp sp' : Sp} (A : FnOk P w K mg base CX k f fd ps sp) (B : FnOk P w K mg base CX k f fd ps sp') : FnOk P w K mg base CX k f fd ps (fun vs H Q E => sp vs H Q E ∨ sp' vs H Q E) :=
  ⟨fun vs H Q E h => h.elim (A.len vs H Q E) (B.len vs H Q E), fun A1 o s H a us vs Q E r e b v h => h.elim (A.run A1 o s H a us vs Q E r e b v) (B.run A1 o s H a us vs Q E r e b v)⟩
structure WGt (H0 H : Hp) (wd L : Addr) (b : Int) (s : Rn) : Prop where
  ex : ∃ lp lc lm lt as va, WG H wd L b lp lc lm lt as va s ∧ ∀ a ∈ wd :: lp :: lc :: lm :: lt :: as, H0 a = none
  sm : Same H0 H
theorem WGt.same {H0 H H' : Hp} {wd L : Addr} {b : Int} {s : Rn} (R : WGt H0 H wd L b s) (e : Same H H') : WGt H0 H' wd L b s :=
  let ⟨lp, lc, lm, lt, as, va, r, n⟩ := R.ex; ⟨⟨lp, lc, lm, lt, as, va, r.same e, n⟩, R.sm.trans e⟩
def fltG : Option Str → V
  | none => .non
  | some c => .str c
def GEnd (Q : VK) (H0 H : Hp) (wd L : Addr) (b : Int) (res : Rn × Option Str) : Prop := ∀ H', WGt H0 H' wd L b res.1 → Tk H H' → Q (fltG res.2) H'
end Rg

/-! {x!r} of a deed: some bounded text -/
namespace Rg
open PySem PySem.Spec PyProof.Rows L2
theorem repr_ints {prog : Program} {w : World} : ∀ {ns : List Int} {its : List Value}, Vals (ns.map V.int) its → (∀ n ∈ ns, n.natAbs.log2 < 1920) → ReprAll prog w its (ns.map fun n => (toString n : Str))
  | [], _, r, _ => by
    cases r
    exact .nil
  | n :: ns, _, r, h => by
    cases r with
    | cons r1 r2 =>
      obtain ⟨t, rfl⟩ := r1
      exact .cons (ReprIs.int t (h n List.mem_cons_self)) (repr_ints r2 fun z hz => h z (List.mem_cons_of_mem _ hz))
theorem piled_ints : ∀ {ns : List Int}, (∀ n ∈ ns, n.natAbs.log2 < 1920) → piled (ns.map fun n => (toString n : Str)) ≤ 1923 * ns.length
  | [], _ => Nat.zero_le _
  | n :: ns, h => by
    rw [List.map_cons, piled_cons, List.length_cons]
    have h1 := PyProof.Rows.int_text_len_1921 (h n List.mem_cons_self)
    have h2 := piled_ints (ns := ns) fun z hz => h z (List.mem_cons_of_mem _ hz)
    omega
/-- a deed that an error may be made with -/
def RblD (v : V) (H : Hp) : Prop := ∃ (p : Addr) (op : Str) (ns : List Int), v = .ref p ∧ H p = some (.tup (.str op :: ns.map V.int)) ∧ (∀ c ∈ op.cps.toList, c < 16 ^ 8) ∧ op.length ≤ 10 ∧ ns.length ≤ 4 ∧ ∀ n ∈ ns, n.natAbs.log2 < 1920
def tFmtD (te : TE) : TE := fun σ H Q => te σ H fun x H1 => RblD x H1 ∧ ∀ y : Str, y.length ≤ 8000 → Q (.str y) H1
theorem pe_fmtD {X : Cx} {e : Expr} {te : TE} {pos : Pos} {k : Nat} (hr : Room k X.A) (he : PE X e te) : PE X (.FormattedValue e 114 none pos) (tFmtD te) := by
  refine ⟨fun pins s σ H Q I h => ?_⟩
  refine wpAny_FormattedValue_repr (thn (he.run pins s σ H _ I h) fun v s1 ⟨x, H1, I1, r1, ⟨p, op, ns, hx, hp, hc, ho, hn, hi⟩, q⟩ => ?_)
  subst hx
  cases r1
  obtain ⟨its, rv, ⟨o, ho', hcl, n, hd⟩, _⟩ := I1.tuple (SqT.of hp)
  have hu := hr.un
  cases its with
  | nil => cases rv
  | cons i0 its =>
    cases rv with
    | cons r0 rr =>
      obtain ⟨t0, rfl⟩ := r0
      have l1 := StrLaws.reprText_len op hc
      have l2 := piled_ints hi
      have hsz : (reprText op).length ≤ sizeLine := by
        have := sizeLine_eq
        omega
      have hT : ReprAll X.prog X.w (Value.str op t0 :: its) (reprText op :: ns.map fun n => (toString n : Str)) := .cons (ReprIs.str op t0 hsz) (repr_ints rr hi)
      have htx := fmt_text (reprText op :: ns.map fun n => (toString n : Str))
      rw [piled_cons] at htx
      have hb : (tupleText (reprText op :: ns.map fun n => (toString n : Str))).length + 5 ≤ 8000 := by omega
      refine wpAny_pyReprObj_slot (by omega) ⟨o, ho', hcl⟩ F.slot_tuple_repr ?_
      refine fmt_tuple_repr ho' hcl hd hT (by have := sizeLine_eq; omega) fun m u tk hm => ⟨m, u, rfl, ?_⟩
      exact wpAny_formatField_str ⟨.str m, H1, I1.tok _, ⟨_, rfl⟩, q m (by omega)⟩ ⟨.str m, H1, I1.tok _, ⟨_, rfl⟩, q m (by omega)⟩ (by have := sizeLine_eq; omega)
/-! ### the refusals, made with a deed -/
theorem RblD.same {v : V} {H H' : Hp} (h : RblD v H) (s : Same H H') : RblD v H' := by
  obtain ⟨p, op, ns, e, hp, a, b, c, d⟩ := h
  exact ⟨p, op, ns, e, s _ _ hp, a, b, c, d⟩
def spRD (K : PySem.W.Frag) : Sp := fun vs H Q _ => ∃ (a C : Addr) (v : V), vs = [.ref a, v] ∧ RblD v H ∧ OexC K C ∧ PySem.W.findIn K (.ref C) "what" = some none ∧ H a = some (exo a C none) ∧
  ∀ d, H d = none → d ≠ a → Q .non (upd (upd H d (exd d [("what", v)])) a (exo a C (some d)))
structure ExkD (P : Program) (w : World) (K : PySem.W.Frag) (mg : Str → Option Value) (base : Heap) (x : Str) (C : Addr) : Prop where
  oex : OexC K C
  wh : PySem.W.findIn K (.ref C) "what" = some none
  mgx : mg x = some (.ref C)
  xf : XfC K C
  ini : ∃ f fd, PySem.W.findIn K (.ref C) "__init__" = some (some (.ref f)) ∧ PySem.W.typeIn K (.ref f) = some (.type "function") ∧ Binds K fd ["self", "what"] [] ∧ FnOk P w K mg base CX0 2 f fd ["self", "what"] (spRD K)
def tRsD (K : PySem.W.Frag) (C : Addr) (W : WX) (te : TE) : TS := fun _ σ H => tMkO C (spRD K) [] (tCons te tNil) σ H fun cls d H' => W cls d σ H'
theorem ps_raiseD {X : Cx} {W : WX} {C : Addr} {x : Str} {e : Expr} {te : TE} {p pos pos' : Pos} (E : ExkD X.prog X.w X.K X.mg X.base x C) (hc : X.calm = true) (tk : Takes X W) (hr : Room 3 X.A) (hg : Gl X x) (he : PE X e te) (hdb : (x == ("__debug__" : Str)) = false := by decide)
    (hst : starEach [e] X.env = (false, eval e X.env) :: starEach [] X.env := by rfl) (hpl : (backTo pos (starEach [] X.env)).any (·.1) = false := by rfl) : PS X (.Raise (some (.Call (.Name x p) [e] [] pos)) none pos') (tRsD X.K C W te) := by
  obtain ⟨f, fd, i1, i2, b, F⟩ := E.ini
  exact ps_raise hc tk (pmk_oex E.oex i1 i2 F hr b .nil pass0 hg E.mgx (pa_cons he pa_nil hst) hdb hst hpl)
theorem rd_rsD {σ : L2.St} {H : Hp} {K : PySem.W.Frag} {D : Ends} {C : Addr} {W : WX} {te : TE} (h : te σ H fun v H1 => [v].length ≤ 1000 ∧ ∀ a, H1 a = none → spRD K (.ref a :: ([v] ++ [])) (upd H1 a (exo a C none))
  (fun u H2 => u = .non ∧ ∃ (d : Addr) (fs : List (Str × V)), H2 a = some (exo a C (some d)) ∧ H2 d = some (exd d fs) ∧ H1 d = none ∧ W (.ref C) (some d) σ (upd (del H2 a) d (.xd fs))) (fun _ _ _ => False)) : tRsD K C W te D σ H := h
theorem rd_mkD {K : PySem.W.Frag} {H : Hp} {C : Addr} {v : V} {R : Option Addr → Hp → Prop} (T : OexC K C) (hw : PySem.W.findIn K (.ref C) "what" = some none) (hv : RblD v H) (q : ∀ d, H d = none → R (some d) (upd H d (.xd [("what", v)]))) :
    [v].length ≤ 1000 ∧ ∀ a, H a = none → spRD K (.ref a :: ([v] ++ [])) (upd H a (exo a C none)) (fun u H2 => u = .non ∧ ∃ (d : Addr) (fs : List (Str × V)), H2 a = some (exo a C (some d)) ∧ H2 d = some (exd d fs) ∧ H d = none ∧ R (some d) (upd (del H2 a) d (.xd fs))) (fun _ _ _ => False) := by
  refine ⟨by show 1 ≤ 1000; decide, fun a ha => ⟨a, C, v, rfl, hv.same (same_upd ha), T, hw, upd_same, fun d hd ne => ⟨rfl, d, _, upd_same, by rw [upd_ne ne, upd_same], ?_, ?_⟩⟩⟩
  · rw [upd_ne ne] at hd
    exact hd
  · have hd' : H d = none := by rw [upd_ne ne] at hd; exact hd
    have e : upd (del (upd (upd (upd H a (exo a C none)) d (exd d [("what", v)])) a (exo a C (some d))) a) d (.xd [("what", v)]) = upd H d (.xd [("what", v)]) := by
      funext b
      by_cases h1 : b = d
      · rw [h1, upd_same, upd_same]
      · rw [upd_ne h1, upd_ne h1]
        by_cases h2 : b = a
        · rw [h2, del_same, ha]
        · rw [del_ne h2, upd_ne h2, upd_ne h1, upd_ne h2]
    rw [e]
    exact q d hd'
theorem form_small {op l : Str} (h : formOf op = some l) : (∀ c ∈ op.cps.toList, c < 16 ^ 8) ∧ op.length ≤ 10 ∧ l.cps.size ≤ 3 := by
  have hm := form_mem h
  simp only [rowForms, List.mem_cons, List.mem_nil_iff, or_false, Prod.mk.injEq] at hm
  rcases hm with ⟨rfl, rfl⟩ | ⟨rfl, rfl⟩ | ⟨rfl, rfl⟩ | ⟨rfl, rfl⟩ | ⟨rfl, rfl⟩ | ⟨rfl, rfl⟩ | ⟨rfl, rfl⟩ | ⟨rfl, rfl⟩ | ⟨rfl, rfl⟩ | ⟨rfl, rfl⟩ | ⟨rfl, rfl⟩ | ⟨rfl, rfl⟩ <;> exact ⟨by decide +kernel, by decide +kernel, by decide +kernel⟩
/-- a drawn row in the heap -/
theorem RblD.of {H : Hp} {v : V} {r : Rw} (h : Rp H v r.d) (hf : RwForm r) (hb : ∀ n ∈ r.ns, n.natAbs.log2 < 1920) : RblD v H := by
  obtain ⟨op, ns⟩ := r
  obtain ⟨p, vs, rfl, hp, ha⟩ := h.tup_inv
  obtain ⟨y0, yr, rfl, z0, ha1⟩ := ha.cons_inv
  have e0 := z0.str_inv; subst e0
  have e1 := RpAll.ints_inv (ns := ns) ha1; subst e1
  obtain ⟨l, hl, hs⟩ := hf
  obtain ⟨a1, a2, a3⟩ := form_small hl
  have hs' : l.cps.size = ns.length := hs
  exact ⟨p, op, ns, rfl, hp, a1, a2, by omega, hb⟩
/-! ### a caught error that lives on as an object -/
def erO (a : Addr) (cls : Value) (d : Option Addr) : HO := .ext fun h => ∃ oe : Obj, h.get? a = some oe ∧ Zc cls d oe ∧ ∃ fv, oe.data = .fields fv
def wRg (K : PySem.W.Frag) (c : Value) (i : Nat) (t₀ : TS) (tr : TS) (D : Ends) : WX := fun cls d σ H =>
  PySem.W.exmOne K cls c = some true ∧ ∀ a, H a = none → t₀ { nx := fun σ' H' => tr D (σ'.set i none) (upd H' a (erO a cls d)), rt := fun _ _ => False, bk := fun _ _ => False, ct := fun _ _ => False } (σ.set i (some (.ref a))) H
section
variable {X : Cx} {pins : List (Addr × Obj)} {σ : L2.St} {H : Hp} {s : Shared}
theorem inv_reg {a : Addr} {oe : Obj} {cls : Value} {d : Option Addr} (J : L2.Inv (pinX X ((a, oe) :: (X.pn ++ pins))) [] σ H s) (ok : X.Ok) (hz : Zc cls d oe) (hf : ∃ fv, oe.data = .fields fv)
    (fr : ∀ o, X.s_0.heap.get? a = some o → a ∉ X.ex → False) (np : ∀ p ∈ X.pn ++ pins, p.1 ≠ a) : L2.Inv X pins σ (upd H a (erO a cls d)) s := by
  have P := pin_inv J ok
  obtain ⟨g, na, nL, nF, nc⟩ := J.pin (a, oe) (List.mem_append_left _ List.mem_cons_self)
  obtain ⟨fv, hd⟩ := hf
  exact
  { ok := ok
    os := P.os
    bare := P.bare
    base := 
    { keep := P.base.keep
      slot := P.base.slot
      free := fun b o e h1 h2 => by
        have hb : b ≠ a := fun hb => fr o (hb ▸ e) (hb ▸ h2)
        rw [upd_ne hb]
        exact P.base.free b o e h1 h2
      there := P.base.there
      tups := fun b xs e => by
        have q := P.base.tups b xs e
        rw [upd_ne (fun hb => by rw [hb, na] at q; cases q)]
        exact q
      frzs := fun b o u e => by
        have q := P.base.frzs b o u e
        rw [upd_ne (fun hb => by rw [hb, na] at q; cases q)]
        exact q
      tbls := fun b ps e => by
        obtain ⟨more, q⟩ := P.base.tbls b ps e
        exact ⟨more, by rw [upd_ne (fun hb => by rw [hb, na] at q; cases q)]; exact q⟩ }
    loc := P.loc
    cell := P.cell
    free := by rw [upd_ne (Ne.symm nL)]; exact P.free
    freeC := fun x c e => by
      rw [upd_ne (fun hb => ?_)]
      · exact P.freeC x c e
      · obtain ⟨v, hv⟩ := P.cell x c e
        rw [hb] at hv
        obtain ⟨o, ho, hdo⟩ : ∃ o, s.heap.get? a = some o ∧ o.data = .cell v := hv
        rw [show s.heap.get? a = some oe from g] at ho
        cases ho
        exact nc v hdo
    pin := fun p hp => by
      obtain ⟨p1, p2, p3⟩ := P.pin p hp
      exact ⟨p1, by rw [upd_ne (np p hp)]; exact p2, p3⟩
    hok := L2.HOk.laidN P.hok (fun _ _ e => e) na ⟨⟨oe, g, hz, fv, hd⟩, ⟨oe, g⟩, fun h1 h2 ⟨o, e, r⟩ k => ⟨o, k o e, r⟩⟩
    len := P.len }
end
section
variable {X : Cx} {x n : Str} {c : Value} {i : Nat} {body rest : List Stmt} {b₀ : Stmt} {np pos pos' : Pos} {tb : WX → TS} {tr t₀ : TS}
theorem pss_try_reg (hs : X.stack = X.env :: X.outer) (hf : X.env.frame = some X.env.locals) (hN : X.N.Nodup) (hi : X.N[i]? = some n) (hln : X.env.kindOf n = some .local) (hc : Names X x c)
    (hb : ∀ (W : WX) (pn : List (Addr × Obj)) (xe : Value → Shared → Prop), Takes (X.tr pn xe) W → PassesOwn (model X.prog X.w) X.A X.env xe → PSs (X.tr pn xe) body (tb W))
    (h0 : PSs X rest tr) (h1 : ∀ (a : Addr) (pn : List (Addr × Obj)), PSs (X.suite a pn) [b₀] t₀) :
    PSs X (.Try body [.ExceptHandler (some (.Name x np)) (some n) [b₀] pos'] [] [] pos :: rest) (fun D σ H => tb (wRg X.K c i t₀ tr D) { D with nx := tr D } σ H) := by
  refine ⟨fun pins s σ H D I h => wpAny_execs_cons (wpAny_Try_except ?_)⟩
  have ok := I.ok
  have frm : X.A.frames = some (X.env :: X.outer) := hs ▸ ok.frames
  refine wpAny_mono ((hb (wRg X.K c i t₀ tr D) (X.pn ++ pins) _ (fun u z ev => ?_) PassesOwn.looking).run [] s σ H { D with nx := tr D } (I.toTry _) h) (fun fl z hz => ?_) (fun _ _ he => he)
  case refine_2 =>
    cases fl with
    | next =>
      obtain ⟨σ1, H1, J, r⟩ := hz
      exact wpAny_execs_nil (h0.run pins z σ1 H1 D (J.ofTry ok) r)
    | brk => exact let ⟨σ1, H1, J, r⟩ := hz; ⟨σ1, H1, J.ofTry ok, r⟩
    | cont => exact let ⟨σ1, H1, J, r⟩ := hz; ⟨σ1, H1, J.ofTry ok, r⟩
    | ret u => exact let ⟨v, σ1, H1, J, r1, r⟩ := hz; ⟨v, σ1, H1, J.ofTry ok, r1, r⟩
  obtain ⟨a, B, sB, _, σ1, H1, cls, d, rfl, J0, q1, q2, q3, na, q5, q6, exm, go⟩ := ev
  have J : L2.Inv X pins σ1 H1 sB := J0.ofTry ok
  show wpAny (model X.prog X.w) X.A (noteFrame (.ref a) X.env) _ _ _
  refine Sky.land Zc.steady frm hf (hs ▸ q3) fun hA fA uA => ?_
  have JA : L2.Inv X pins σ1 H1 { z with heap := hA } := J.landed q1 fA.1 (q2.trans uA) q5 q6
  obtain ⟨oA, vA, gA, zA, dA⟩ := fA.there
  have nofr : a ∉ frs (X.env :: X.outer) := fun hm => by
    obtain ⟨_, o', e', nf⟩ := fA.2.2.1.mem hm
    cases gA.symm.trans e'
    exact nf vA dA
  have nL : a ≠ X.env.locals := fun e => nofr (List.mem_filterMap.mpr ⟨X.env, List.mem_cons_self, e ▸ hf⟩)
  have nF : a ∉ X.fs := fun hm => let ⟨e, he, q⟩ := List.mem_filterMap.mp hm; nofr (List.mem_filterMap.mpr ⟨e, List.mem_cons_of_mem _ he, q⟩)
  have nB : ∀ o, sB.heap.get? a = some o → False := fun o e => by
    have h1 := q1 a o e (by rw [show (X.tr (X.pn ++ pins) _).stack = X.env :: X.outer from hs]; exact nofr)
    rw [fA.2.1] at h1
    cases h1
  have fr : ∀ o, X.s_0.heap.get? a = some o → a ∉ X.ex → False := fun o e h2 => by
    obtain ⟨o', e'⟩ := J.base.there a o e h2
    exact nB o' e'
  have npn : ∀ p ∈ X.pn ++ pins, p.1 ≠ a := fun p hp e => nB p.2 (e ▸ (J.pin p hp).1)
  have SA := JA.suite gA dA na nL nF
  refine wpAny_handleBy_cons (codeAny_handlers_test ?_) (fun q => nomatch q)
  have lk : PySem.W.Looks (model X.prog X.w) hA (typeOf (.ref a)) cls := fun A0 Q0 E0' s0 k0 q0 => wpAny_typeOf_ref (k0 a oA gA) (zA.1 ▸ q0)
  have lm := PySem.W.exm_one (M := model X.prog X.w) JA.kIn lk exm
  have named : ∀ {Q0 E0' : Value → Shared → Prop}, Q0 c { z with heap := hA } → wpAny (model X.prog X.w) (X.A.mark (some (.ref a))) (eval (.Name x np) X.env) Q0 E0' { z with heap := hA } := fun {Q0 E0'} q0 => by
    obtain ⟨g1, g2, g3 | ⟨g3, g4, g5⟩⟩ := hc
    · exact ld_glob (X := X.suite a ((a, oA) :: (X.pn ++ pins))) SA g1 g3 q0 g2
    · exact ld_blt (X := X.suite a ((a, oA) :: (X.pn ++ pins))) SA g1 g3 g4 q0 g5 g2
  refine named (lm.here (codeAny_handlers_suite_as (HandSPX.lands_againZ fA fun hC fC uC => ?_)))
  have JC : L2.Inv X pins σ1 H1 { z with heap := hC } := J.landed q1 fC.1 ((q2.trans uA).trans uC) q5 q6
  obtain ⟨oC, vC, gC, zC, dC⟩ := fC.there
  refine store_ok (X := X.suite a ((a, oC) :: (X.pn ++ pins))) (v := .ref a) (JC.suite gC dC na nL nF) hN hi (.inl hln) rfl (fun sD SD => ?_) (.inr hln)
  refine wpAny_mono ((h1 a ((a, oC) :: (X.pn ++ pins))).run [] sD _ H1 _ SD (go a na)) (fun fl sE he => ?_) (fun _ _ q => False.elim q)
  cases fl with
  | next =>
    obtain ⟨σ2, H2, S2, r2⟩ := he
    have P2 := inv_pin S2 ok
    exact gone_ok (X := pinX X ((a, oC) :: (X.pn ++ pins))) P2 hN hi hln fun sF PF => h0.run pins sF _ _ D (inv_reg PF ok zC ⟨vC, dC⟩ fr npn) r2
  | brk => exact let ⟨_, _, _, q⟩ := he; False.elim q
  | cont => exact let ⟨_, _, _, q⟩ := he; False.elim q
  | ret u => exact let ⟨_, _, _, _, _, q⟩ := he; False.elim q
end
theorem inst_er {X : Cx} {pins : List (Addr × Obj)} {σ : L2.St} {H : Hp} {s : Shared} {a D dd : Addr} {fs : List (Str × V)} (I : L2.Inv X pins σ H s) (ha : H a = some (erO a (.ref D) (some dd))) (hx : H dd = some (.xd fs)) : ∃ oe od, PySem.W.InstAt s.heap a oe D (some od) ∧ oe.dict = some dd := by
  obtain ⟨⟨oe, g, hz, fv, hv⟩, _, _⟩ := (show ObjOk X.prog X.w H s.heap a (erO a (.ref D) (some dd)) from I.hok a _ ha)
  obtain ⟨mA, ⟨o, _, _, e, _⟩, _⟩ := (show ObjOk X.prog X.w H s.heap dd (.xd fs) from I.hok dd _ hx)
  obtain ⟨oc, od, oda, osl⟩ := oe
  obtain ⟨h1, h2⟩ := hz
  dsimp only at h1 h2 hv
  subst h1 h2 hv
  exact ⟨_, o, ⟨g, rfl, rfl, e⟩, rfl⟩
def rIsE (K : PySem.W.Frag) : List V → Hp → VK → Prop := fun xs H Q => ∃ (a : Addr) (c : V) (D dd : Addr) (fs : List (Str × V)) (cv : Value) (b : Bool), xs = [.ref a, c] ∧ H a = some (erO a (.ref D) (some dd)) ∧ H dd = some (.xd fs) ∧ ExI K D ∧ ClsV c cv ∧ PySem.W.kitOne K (.ref D) cv = some b ∧ Q (.bl b) H
def rIsET (K : PySem.W.Frag) : List V → Hp → VK → Prop := fun xs H Q => ∃ (a tp D dd : Addr) (cs : List V) (ws : List Value) (fs : List (Str × V)) (b : Bool), xs = [.ref a, .ref tp] ∧ H a = some (erO a (.ref D) (some dd)) ∧ H dd = some (.xd fs) ∧ ExI K D ∧ H tp = some (.tup cs) ∧ Paired ClsV cs ws ∧ PySem.W.kitAny K (.ref D) ws = some b ∧ Q (.bl b) H
theorem cre_isX {X : Cx} {K : PySem.W.Frag} (hK : X.K = K := by rfl) : CallR X (.builtin "isinstance") (rIsE K) := by
  subst hK
  intro pins s σ H xs us Q I r h
  obtain ⟨a, c, D, dd, fs, cv, b, rfl, ha, hx, E, k, e, q⟩ := h
  obtain ⟨u1, u2, rfl, r1, r2⟩ := vals2 r
  cases r1
  cases k.eq r2
  obtain ⟨oe, od, J, _⟩ := inst_er I ha hx
  exact PySem.W.kia_one (PySem.W.kitx_exc E.cl E.xf.ga E.xf.gg E.xf.exC E.ha E.hn E.ht E.hm) I.kIn J e (fun z => nomatch z) fun tk => ⟨.bl b, H, I.tok tk, rfl, q⟩
theorem cre_isXT {X : Cx} {K : PySem.W.Frag} (hK : X.K = K := by rfl) : CallR X (.builtin "isinstance") (rIsET K) := by
  subst hK
  intro pins s σ H xs us Q I r h
  obtain ⟨a, tp, D, dd, cs, ws, fs, b, rfl, ha, hx, E, hT, k, e, q⟩ := h
  obtain ⟨u1, u2, rfl, r1, r2⟩ := vals2 r
  cases r1
  cases (show u2 = Value.ref tp from r2)
  obtain ⟨oe, od, J, _⟩ := inst_er I ha hx
  obtain ⟨_, its, rv, o, h1, h2, n, h3⟩ := (show ObjOk X.prog X.w H s.heap tp (.tup cs) from I.hok tp _ hT)
  have e3 := ClsV.all k rv
  subst e3
  obtain ⟨oc, od', dt, sl⟩ := o
  simp only at h2 h3
  subst h2 h3
  exact PySem.W.kia_tup (PySem.W.kitx_exc E.cl E.xf.ga E.xf.gg E.xf.exC E.ha E.hn E.ht E.hm) I.kIn J h1 e (fun z => nomatch z) fun tk => ⟨.bl b, H, I.tok tk, rfl, q⟩
def tXfE (C : Addr) (f : Str) (te : TE) : TE := fun σ H Q => te σ H fun x H1 => ∃ (a dd : Addr) (fs : List (Str × V)) (v : V), x = .ref a ∧ H1 a = some (erO a (.ref C) (some dd)) ∧ H1 dd = some (.xd fs) ∧ fs.lookup f = some v ∧ Q v H1
theorem pee_xf {X : Cx} {C : Addr} {e : Expr} {te : TE} {pos : Pos} {n : Str} (T : XfC X.K C) (hno : PySem.W.findIn X.K (.ref C) n = some none) (he : PE X e te) (hb : attributeBase e n X.env (eval e X.env) = eval e X.env := by rfl) :
    PE X (.Attribute e n pos) (tXfE C n te) := by
  refine ⟨fun pins s σ H Q I h => attr_of hb (thn (he.run pins s σ H _ I h) fun u z hh => ?_)⟩
  obtain ⟨y, H1, I1, ry, a, dd, fs, v, ey, hx, ea, lv, q⟩ := hh
  subst ey
  obtain rfl : u = Value.ref a := ry
  obtain ⟨oe, od, J, hd⟩ := inst_er I1 hx ea
  obtain ⟨mA, ns, rl⟩ := (show ObjOk X.prog X.w H1 z.heap dd (.xd fs) from I1.hok dd _ ea)
  obtain ⟨od, ho, look⟩ := lookIn_ns ns
  obtain ⟨w, hw, rw'⟩ := RelO.some_of (v := v) (o := mA n) (lv ▸ rl n)
  have J' : PySem.W.InstAt z.heap a oe C (some od) := by
    obtain ⟨j1, j2, j3, j4⟩ := J
    exact ⟨j1, j2, j3, hd ▸ ho⟩
  exact HandSPX.exc_get I1.kIn J' T.ga T.gg T.exC (PySem.W.findObj_own T.hdC hno rfl (by rw [look, hw])) (handed_of rw') ⟨v, H1, I1.tok _, rw', q⟩
section
variable {X : Cx} {CX : CXT} {k : Nat} {f : Addr} {fd : FuncData} {ps : List Str} {sp : Sp} {E : L2.St → XK} {x : Str} {p pos : Pos} {e : Expr} {es : List Expr} {t : TA} {ds : List Value} {dvs : List V}
/-- a call in a try, with what is left out -/
def tCallSd (sp : Sp) (dvs : List V) (E : L2.St → XK) (t : TA) : TE := fun σ H Q => t σ H fun vs H1 => sp (vs ++ dvs) H1 Q (E σ)
theorem pe_callSd (F : FnOk X.prog X.w X.K X.mg X.base CX k f fd ps sp) (hr : Room k X.A) (hg : Gl X x) (hm : X.mg x = some (.ref f)) (hk : PySem.W.keepIn X.K (.ref f) = true) (hb : Binds X.K fd ps ds) (hd : Vals dvs ds) (hx : ∀ σ, PassesAt CX X σ (E σ))
    (ha : PA X (e :: es) t) (hdb : (x == ("__debug__" : Str)) = false := by decide) (he : starEach (e :: es) X.env = (false, eval e X.env) :: starEach es X.env := by rfl) (hpl : (backTo pos (starEach es X.env)).any (·.1) = false := by rfl) :
    PE X (.Call (.Name x p) (e :: es) [] pos) (tCallSd sp dvs E t) := by
  refine ⟨fun pins s σ H Q I h => ?_⟩
  refine wpAny_Call_Name_kw (ld_glob I hg hm ?_ hdb)
  refine PySem.W.callWith_K (h₀ := X.base) I.ok.mod.kin hk (thn (ha.run pos pins s σ H _ I h) fun us s1 ⟨vs, H1, I1, r, q⟩ => ⟨I1.kIn, ?_⟩) he hpl
  have r2 : Vals (vs ++ dvs) (us ++ ds) := r.append hd
  have hl : (us ++ ds).length = ps.length := by rw [← r2.length]; exact F.len _ _ _ _ q
  refine wpAny_call (codeAny_mono (F.run X.A X.stack s1 H1 ⟨us, []⟩ (us ++ ds) (vs ++ dvs) Q (E σ) hr I1.env0 (hb s1 us I1.kIn hl) r2 q) fun r s' hq => ?_)
  cases r with
  | error e => exact hx σ pins H1 s1 e s' I1 hq
  | ok fl =>
    cases fl with
    | ret u => exact I1.after hq
    | next => exact False.elim hq
    | brk => exact False.elim hq
    | cont => exact False.elim hq
theorem rd_callSd {σ : L2.St} {H : Hp} {Q : VK} (h : t σ H fun vs H1 => sp (vs ++ dvs) H1 Q (E σ)) : tCallSd sp dvs E t σ H Q := h
end
end Rg

/-! dicts with keys that are tuples of tuples (KE's nestedKind), for the hand layer -/
namespace Rg
open PySem PySem.Spec PyProof.Rows L2
mutual
/-- data of numbers, texts, None and tuples of such in the heap is a key -/
theorem nk_is {P : Program} {w : World} {H : Hp} {h : Heap} (ok : HOk P w H h) : ∀ (k : NestedKey) {v : V} {u : Value}, Rp H v k.data → RelV v u → NestedIs h k u
  | .none, v, u, r, e => by
    have r' : Rp H v PyData.none := r
    cases r'
    obtain rfl : u = Value.none := e
    exact .none
  | .num i, v, u, r, e => by
    have r' : Rp H v (PyData.int i) := r
    cases r'
    obtain ⟨t, rfl⟩ := e
    exact .int i t
  | .text x, v, u, r, e => by
    have r' : Rp H v (PyData.str x) := r
    cases r'
    obtain ⟨t, rfl⟩ := e
    exact .text x t
  | .tup ks, v, u, r, e => by
    have r' : Rp H v (PyData.tuple (NestedKey.datas ks)) := r
    obtain ⟨p, xs, rfl, hp, ha⟩ := r'.tup_inv
    obtain rfl : u = Value.ref p := e
    obtain ⟨_, its, rv, o, h1, h2, n, h3⟩ := (show ObjOk P w H h p (.tup xs) from ok p _ hp)
    exact .tup h1 h2 h3 (nk_all ok ks ha rv)
theorem nk_all {P : Program} {w : World} {H : Hp} {h : Heap} (ok : HOk P w H h) : ∀ (ks : List NestedKey) {vs : List V} {us : List Value}, RpAll H vs (NestedKey.datas ks) → Vals vs us → NestedAll h ks us
  | [], vs, us, r, e => by
    have r' : RpAll H vs [] := r
    cases r'
    cases e
    exact .nil
  | k :: ks, vs, us, r, e => by
    have r' : RpAll H vs (k.data :: NestedKey.datas ks) := r
    cases r' with
    | cons r1 r2 =>
      cases e with
      | cons e1 e2 => exact .cons (nk_is ok k r1 e1) (nk_all ok ks r2 e2)
end
/-- an entry: the key, where its tuple stands, the value -/
abbrev NE := NestedKey × Addr × V
def REnt (x : NE) (y : NestedKey × Addr × Value) : Prop := x.1 = y.1 ∧ x.2.1 = y.2.1 ∧ RelV x.2.2 y.2.2
def dN (P : Program) (w : World) (a : Addr) (xs : List NE) : HO := .ext fun h => (a == sysModules) = false ∧ xs.length ≤ sizeLine ∧ ∃ ys : List (NestedKey × Addr × Value), Paired REnt xs ys ∧ ∃ o es ep, h.get? a = some o ∧ o.ExactDict ∧ o.data = .dict es ep ∧ es.toList = ys.map (entryOfKey (nestedKind P w)) ∧ (ys.map (·.1)).Nodup
def KeysN (H : Hp) (xs : List NE) : Prop := ∀ x ∈ xs, Rp H (.ref x.2.1) x.1.data ∧ x.1.depth ≤ 8
theorem KeysN.keep {H H' : Hp} {xs : List NE} (h : KeysN H xs) (k : Tk H H') : KeysN H' xs := fun x hx => ⟨(h x hx).1.keep k, (h x hx).2⟩
theorem KeysN.snoc {H : Hp} {xs : List NE} {k : NestedKey} {q : Addr} {v : V} (h : KeysN H xs) (r : Rp H (.ref q) k.data) (hd : k.depth ≤ 8) : KeysN H (xs ++ [(k, q, v)]) := fun x hx => by
  rcases List.mem_append.mp hx with h' | h'
  · exact h x h'
  · rw [List.mem_singleton.mp h']
    exact ⟨r, hd⟩
def valN (xs : List NE) (k : NestedKey) : Option V := (xs.find? fun x => decide (x.1 = k)).map (·.2.2)
theorem at_N {k : NestedKey} : ∀ {xs : List NE} {ys : List (NestedKey × Addr × Value)}, Paired REnt xs ys → (∃ v p, valN xs k = some v ∧ atKey ys k = some p ∧ RelV v p.2) ∨ (valN xs k = none ∧ atKey ys k = none)
  | _, _, .nil => .inr ⟨rfl, rfl⟩
  | _, _, @Paired.cons _ _ _ x y xs ys r t => by
    by_cases h : x.1 = k
    · have hy : y.1 = k := r.1 ▸ h
      refine .inl ⟨x.2.2, y.2, ?_, ?_, r.2.2⟩
      · unfold valN
        simp [h]
      · unfold atKey
        simp [hy]
    · have hy : ¬ y.1 = k := fun e => h (r.1.trans e)
      have e1 : valN (x :: xs) k = valN xs k := by
        unfold valN
        simp [h]
      have e2 : atKey (y :: ys) k = atKey ys k := by
        unfold atKey
        simp [hy]
      rw [e1, e2]
      exact at_N t
theorem isSome_N {k : NestedKey} {xs : List NE} {ys : List (NestedKey × Addr × Value)} (h : Paired REnt xs ys) : (atKey ys k).isSome = (valN xs k).isSome := by
  rcases at_N (k := k) h with ⟨v, p, e1, e2, _⟩ | ⟨e1, e2⟩
  · rw [e1, e2]; rfl
  · simp [e1, e2]
theorem keys_is {P : Program} {w : World} {H : Hp} {h : Heap} (ok : HOk P w H h) : ∀ {xs : List NE} {ys : List (NestedKey × Addr × Value)}, Paired REnt xs ys → KeysN H xs → ∀ y ∈ ys, (nestedKind P w).is h y.1 y.2.1
  | _, _, .nil, _ => fun y hy => nomatch hy
  | _, _, @Paired.cons _ _ _ x y xs ys r t, ks => fun z hz => by
    rcases List.mem_cons.mp hz with rfl | hz
    · obtain ⟨k1, k2⟩ := ks x List.mem_cons_self
      refine ⟨?_, by rw [← r.1]; exact k2⟩
      rw [← r.1, ← r.2.1]
      exact nk_is ok _ k1 rfl
    · exact keys_is ok t (fun q hq => ks q (List.mem_cons_of_mem _ hq)) z hz
theorem dn_of {P : Program} {w : World} {H : Hp} {h : Heap} {a : Addr} {xs : List NE} (ok : HOk P w H h) (e : H a = some (dN P w a xs)) (ks : KeysN H xs) : (a == sysModules) = false ∧ xs.length ≤ sizeLine ∧ ∃ ys, Paired REnt xs ys ∧ h.DictOfH (nestedKind P w) a ys := by
  obtain ⟨⟨h1, h2, ys, h3, o, es, ep, g1, g2, g3, g4, g5⟩, _, _⟩ := (show ObjOk P w H h a (dN P w a xs) from ok a _ e)
  exact ⟨h1, h2, ys, h3, o, es, ep, g1, g2, g3, g4, keys_is ok h3 ks, g5⟩
theorem dn_ok {P : Program} {w : World} {H : Hp} {h : Heap} {a : Addr} {xs : List NE} {ys : List (NestedKey × Addr × Value)} (h1 : (a == sysModules) = false) (h2 : xs.length ≤ sizeLine) (h3 : Paired REnt xs ys) (d : h.DictOfH (nestedKind P w) a ys) : ObjOk P w H h a (dN P w a xs) := by
  obtain ⟨o, es, ep, g1, g2, g3, g4, _, g5⟩ := d
  refine ⟨⟨h1, h2, ys, h3, o, es, ep, g1, g2, g3, g4, g5⟩, ⟨o, g1⟩, ?_⟩
  rintro ha hb ⟨k1, k2, zs, k3, o', es', ep', f1, f2, f3, f4, f5⟩ keep
  exact ⟨k1, k2, zs, k3, o', es', ep', keep _ f1, f2, f3, f4, f5⟩
section
variable {X : Cx}
/-- k in d -/
def rInN (P : Program) (w : World) : R2 := fun x y H Q => ∃ (q a : Addr) (k : NestedKey) (xs : List NE), x = .ref q ∧ y = .ref a ∧ H a = some (dN P w a xs) ∧ KeysN H xs ∧ Rp H (.ref q) k.data ∧ k.depth ≤ 8 ∧ Q (.bl (valN xs k).isSome) H
def rNotInN (P : Program) (w : World) : R2 := fun x y H Q => ∃ (q a : Addr) (k : NestedKey) (xs : List NE), x = .ref q ∧ y = .ref a ∧ H a = some (dN P w a xs) ∧ KeysN H xs ∧ Rp H (.ref q) k.data ∧ k.depth ≤ 8 ∧ Q (.bl (!(valN xs k).isSome)) H
theorem room8 {A : Around} (hu : A.units + 64 < cLine) {P : Program} {w : World} : (nestedKind P w).room A.in1 := by
  show A.in1.units + 8 < cLine
  rw [Around.in1_units]
  omega
theorem op_inN (hu : X.A.units + 64 < cLine) {P : Program} {w : World} (h1 : X.prog = P := by rfl) (h2 : X.w = w := by rfl) : OpR X (compareOp .In) (rInN P w) := by
  subst h1 h2
  intro pins s σ H x y v u Q I rx ry h
  obtain ⟨q, a, k, xs, rfl, rfl, e, ks, rk, dk, hq⟩ := h
  obtain rfl : v = Value.ref q := rx
  obtain rfl : u = Value.ref a := ry
  obtain ⟨hd, _, ys, pr, dd⟩ := dn_of I.hok e ks
  refine wpAny_in_heap (room8 hu) (⟨nk_is I.hok k rk rfl, dk⟩ : (nestedKind X.prog X.w).is s.heap k q) hd dd ?_
  rw [isSome_N pr]
  exact ⟨.bl _, H, I.tok _, rfl, hq⟩
theorem op_notInN (hu : X.A.units + 64 < cLine) {P : Program} {w : World} (h1 : X.prog = P := by rfl) (h2 : X.w = w := by rfl) : OpR X (compareOp .NotIn) (rNotInN P w) := by
  subst h1 h2
  intro pins s σ H x y v u Q I rx ry h
  obtain ⟨q, a, k, xs, rfl, rfl, e, ks, rk, dk, hq⟩ := h
  obtain rfl : v = Value.ref q := rx
  obtain rfl : u = Value.ref a := ry
  obtain ⟨hd, _, ys, pr, dd⟩ := dn_of I.hok e ks
  refine wpAny_notIn_heap (room8 hu) (⟨nk_is I.hok k rk rfl, dk⟩ : (nestedKind X.prog X.w).is s.heap k q) hd dd ?_
  rw [isSome_N pr]
  exact ⟨.bl _, H, I.tok _, rfl, hq⟩
/-- d[k], there -/
def rIxN (P : Program) (w : World) : R2 := fun x y H Q => ∃ (q a : Addr) (k : NestedKey) (xs : List NE) (v : V), x = .ref a ∧ y = .ref q ∧ H a = some (dN P w a xs) ∧ KeysN H xs ∧ Rp H (.ref q) k.data ∧ k.depth ≤ 8 ∧ valN xs k = some v ∧ Q v H
theorem ix_dN (hu : X.A.units + 64 < cLine) {P : Program} {w : World} (h1 : X.prog = P := by rfl) (h2 : X.w = w := by rfl) : IxR X (rIxN P w) := by
  subst h1 h2
  intro value slice pins s σ H x y v u Q I rx ry h hs
  obtain ⟨q, a, k, xs, z, rfl, rfl, e, ks, rk, dk, hv, hq⟩ := h
  obtain rfl : v = Value.ref a := rx
  obtain rfl : u = Value.ref q := ry
  obtain ⟨hd, _, ys, pr, dd⟩ := dn_of I.hok e ks
  rcases at_N (k := k) pr with ⟨v', p, e1, e2, rv⟩ | ⟨e1, _⟩
  · rw [hv] at e1
    cases e1
    exact tail_any dd.typeIs slot_dict_getitem.lookup (wpAny_getItem_heap (room8 hu) (⟨nk_is I.hok k rk rfl, dk⟩ : (nestedKind X.prog X.w).is s.heap k q) dd e2 ⟨z, H, I.tok _, rv, hq⟩) hs
  · rw [hv] at e1
    cases e1
/-- d[k] = v, a new key -/
def rSetN (P : Program) (w : World) : TSet := fun o i v H Q => ∃ (q a : Addr) (k : NestedKey) (xs : List NE), o = .ref a ∧ i = .ref q ∧ H a = some (dN P w a xs) ∧ KeysN H xs ∧ Rp H (.ref q) k.data ∧ k.depth ≤ 8 ∧ valN xs k = none ∧ xs.length ≤ 1000 ∧ Q (upd H a (dN P w a (xs ++ [(k, q, v)])))
theorem set_dN (hu : X.A.units + 64 < cLine) {P : Program} {w : World} (h1 : X.prog = P := by rfl) (h2 : X.w = w := by rfl) : PSet X (rSetN P w) := by
  subst h1 h2
  intro pins s σ H o i v ov iv u Q I ro ri rv h
  obtain ⟨q, a, k, xs, rfl, rfl, e, ks, rk, dk, hv, hl, hq⟩ := h
  obtain rfl : ov = Value.ref a := ro
  obtain rfl : iv = Value.ref q := ri
  obtain ⟨hd, hz, ys, pr, dd⟩ := dn_of I.hok e ks
  have e2 : atKey ys k = none := by
    rcases at_N (k := k) pr with ⟨v', p, e1, _, _⟩ | ⟨_, e2⟩
    · rw [hv] at e1
      cases e1
    · exact e2
  refine wpAny_setItem_heap (hsz := by rw [← Paired.length pr]; exact hz) (room8 hu) (⟨nk_is I.hok k rk rfl, dk⟩ : (nestedKind X.prog X.w).is s.heap k q) dd fun h' dd' hs => ?_
  have he : ∃ z, h'.get? a = some z := let ⟨z, _, _, hz, _⟩ := dd'; ⟨z, hz⟩
  rw [storedH_new e2] at dd'
  refine ⟨_, d_write I (by rw [e]; exact True.intro) hs he (dn_ok hd ?_ (Paired.snoc pr ⟨rfl, rfl, rv⟩) dd'), hq⟩
  rw [List.length_append, sizeLine_eq]
  show xs.length + 1 ≤ _
  omega
/-- {k: v} -/
def tDispN (P : Program) (w : World) (tk tv : TE) : TE := fun σ H Q => ∀ p, H p = none → tk σ (upd H p (dN P w p [])) fun x H1 => tv σ H1 fun y H2 => ∃ (q : Addr) (k : NestedKey), x = .ref q ∧ H2 p = some (dN P w p []) ∧ Rp H2 (.ref q) k.data ∧ k.depth ≤ 8 ∧ Q (.ref p) (upd H2 p (dN P w p [(k, q, y)]))
theorem pe_dispN {pos : Pos} {e1 e2 : Expr} {tk tv : TE} (hu : X.A.units + 64 < cLine) (he1 : PE X e1 tk) (he2 : PE X e2 tv) {P : Program} {w : World} (h1 : X.prog = P := by rfl) (h2 : X.w = w := by rfl) : PE X (.Dict [some e1] [e2] pos) (tDispN P w tk tv) := by
  subst h1 h2
  refine ⟨fun pins s σ H Q I q => ?_⟩
  have hn := I.hok.fresh (Nat.le_refl s.heap.objs.size)
  have I1 := I.laid (a := s.heap.objs.size) (o := dN X.prog X.w s.heap.objs.size []) (h' := s.heap.push { cls := .type "dict", data := .dict #[] }) (t' := s.toks) (fun _ _ q => Heap.get?_push_of_some _ q) (Nat.le_refl _)
    (dn_ok (beq_eq_false_iff_ne.mpr (Ne.symm (Nat.ne_of_lt I.big))) (Nat.zero_le _) .nil (Heap.DictOfH.new s.heap))
  have one : wpAny (model X.prog X.w) X.A (evalPairs (pairTrees [some e1] [e2] X.env pos)) (fun vs s2 => ∃ ps, CarriesH (nestedKind X.prog X.w) s2.heap vs ps ∧ s2.heap.DictOfH (nestedKind X.prog X.w) s.heap.objs.size [] ∧
      ∀ h' tk, h'.DictOfH (nestedKind X.prog X.w) s.heap.objs.size (storedAllH [] ps) → Heap.SameBut s.heap.objs.size s2.heap h' → EP X pins σ Q (.ref s.heap.objs.size) { s2 with heap := h', toks := tk }) X.xe { s with heap := s.heap.push { cls := .type "dict", data := .dict #[] } } := by
    refine pairTrees_cons_walk (thn (he1.run pins _ σ _ _ I1 (q _ hn)) fun u s1 ⟨x, H1, I1, rx, q1⟩ => thn (he2.run pins s1 σ H1 _ I1 q1) fun w2 s2 ⟨y, H2, I2, ry, q2⟩ => pairTrees_nil_walk ?_)
    obtain ⟨r, k, rfl, e, rk, dk, q3⟩ := q2
    obtain rfl : u = Value.ref r := rx
    obtain ⟨hd, _, ys, pr, dd⟩ := dn_of I2.hok e (fun z hz => nomatch hz)
    cases pr
    refine ⟨[(k, r, w2)], ⟨rfl, rfl, ⟨nk_is I2.hok k rk rfl, dk⟩, trivial⟩, dd, fun h' tk' dd' hs => ⟨.ref s.heap.objs.size, _, ?_, rfl, q3⟩⟩
    have he : ∃ z, h'.get? s.heap.objs.size = some z := let ⟨z, _, _, hz, _⟩ := dd'; ⟨z, hz⟩
    exact d_write I2 (by rw [e]; exact True.intro) hs he (dn_ok hd (by show 1 ≤ sizeLine; decide) (.cons ⟨rfl, rfl, ry⟩ .nil) dd')
  have hz := zip_pairTrees [some e1] [e2] X.env pos rfl rfl
  have hp : pairTrees [some e1] [e2] X.env pos ≠ [] := fun z => nomatch (congrArg List.length z)
  rw [arm_eval_Dict, hz, dictDisplay_pairs _ hp (by show 1 < 17; decide)]
  refine wpAny_bind (wpAny_standAt (wpAny_bind (wpAny_subDictH (knd := nestedKind X.prog X.w) (by show X.A.units + 8 < cLine; omega) (by show 1 ≤ 15; decide) (thn one fun vs s2 z => ?_))))
  obtain ⟨ps, c, dd, k⟩ := z
  exact ⟨ps, c, dd, fun h' tk a b => wpAny_pure (k h' tk a b)⟩
end
/-! ### stands as keys -/
mutual
theorem nk_eqv : ∀ (a b : NestedKey), PyData.eqv a.data b.data = NestedKey.beq a b
  | .none, .none => rfl
  | .num i, .num j => by
    show (i == j) = decide (i = j)
    by_cases h : i = j <;> simp [h]
  | .text x, .text y => by
    show (x == y) = decide (x = y)
    by_cases h : x = y <;> simp [h]
  | .tup xs, .tup ys => nk_eqvs xs ys
  | .none, .num _ | .none, .text _ | .none, .tup _ => rfl
  | .num _, .none | .num _, .text _ | .num _, .tup _ => rfl
  | .text _, .none | .text _, .num _ | .text _, .tup _ => rfl
  | .tup _, .none | .tup _, .num _ | .tup _, .text _ => rfl
theorem nk_eqvs : ∀ (a b : List NestedKey), PyData.eqvAll (NestedKey.datas a) (NestedKey.datas b) = NestedKey.beqAll a b
  | [], [] => rfl
  | x :: xs, y :: ys => by
    show (PyData.eqv x.data y.data && PyData.eqvAll (NestedKey.datas xs) (NestedKey.datas ys)) = (NestedKey.beq x y && NestedKey.beqAll xs ys)
    rw [nk_eqv x y, nk_eqvs xs ys]
  | [], _ :: _ => rfl
  | _ :: _, [] => rfl
end
theorem datas_map {α : Type} (f : α → NestedKey) (g : α → PyData) (h : ∀ x, (f x).data = g x) : ∀ l : List α, NestedKey.datas (l.map f) = l.map g
  | [] => rfl
  | x :: l => by
    show (f x).data :: NestedKey.datas (l.map f) = g x :: l.map g
    rw [h x, datas_map f g h l]
theorem depths_map {α : Type} (f : α → NestedKey) (n : Nat) (h : ∀ x, (f x).depth ≤ n) : ∀ l : List α, NestedKey.depthAll (l.map f) ≤ n
  | [] => Nat.zero_le _
  | x :: l => by
    have h1 := h x
    have h2 := depths_map f n h l
    show max (f x).depth (NestedKey.depthAll (l.map f)) ≤ n
    omega
def wdK : Wd → NestedKey
  | .num n => .tup [.text "num", .num n]
  | .ptr r s p => .tup [.text "ptr", .num r, .num s, .num p]
def ptK : Pt → NestedKey
  | none => .none
  | some (r, s, p) => .tup [.num r, .num s, .num p]
def wsK (ws : List Wd) : NestedKey := .tup (ws.map wdK)
def Sd.k (s : Sd) : NestedKey := .tup [.num s.ring, .num s.a, .tup (s.pt.map ptK), .tup (s.me.map wsK)]
theorem wdK_d : ∀ x : Wd, (wdK x).data = x.d
  | .num _ => rfl
  | .ptr _ _ _ => rfl
theorem ptK_d : ∀ x : Pt, (ptK x).data = ptD x
  | none => rfl
  | some (_, _, _) => rfl
theorem wsK_d (ws : List Wd) : (wsK ws).data = .tuple (ws.map Wd.d) := congrArg PyData.tuple (datas_map wdK Wd.d wdK_d ws)
theorem Sd.k_d (s : Sd) : s.k.data = s.d := by
  show PyData.tuple [.int s.ring, .int s.a, .tuple (NestedKey.datas (s.pt.map ptK)), .tuple (NestedKey.datas (s.me.map wsK))] = s.d
  rw [datas_map ptK ptD ptK_d, datas_map wsK _ wsK_d]
  rfl
theorem Sd.k_depth (s : Sd) : s.k.depth ≤ 8 := by
  have h1 : ∀ x, (wdK x).depth ≤ 1 := fun x => by cases x <;> exact (by decide : (1 : Nat) ≤ 1)
  have h2 : ∀ x, (ptK x).depth ≤ 1 := fun x => by
    match x with
    | none => exact Nat.zero_le _
    | some (_, _, _) => exact Nat.le_refl _
  have h3 : ∀ x, (wsK x).depth ≤ 2 := fun x => Nat.succ_le_succ (depths_map wdK 1 h1 x)
  have a := depths_map ptK 1 h2 s.pt
  have b := depths_map wsK 2 h3 s.me
  show max 0 (max 0 (max (NestedKey.depthAll (s.pt.map ptK) + 1) (max (NestedKey.depthAll (s.me.map wsK) + 1) 0))) + 1 ≤ 8
  omega
theorem wdK_inj : ∀ {x y : Wd}, wdK x = wdK y → x = y
  | .num _, .num _, h => by cases h; rfl
  | .ptr _ _ _, .ptr _ _ _, h => by cases h; rfl
  | .num _, .ptr _ _ _, h => by simp [wdK] at h
  | .ptr _ _ _, .num _, h => by simp [wdK] at h
theorem ptK_inj : ∀ {x y : Pt}, ptK x = ptK y → x = y
  | none, none, _ => rfl
  | some (_, _, _), some (_, _, _), h => by cases h; rfl
  | none, some (_, _, _), h => by simp [ptK] at h
  | some (_, _, _), none, h => by simp [ptK] at h
theorem map_inj {α β : Type} {f : α → β} (h : ∀ {x y}, f x = f y → x = y) : ∀ {a b : List α}, a.map f = b.map f → a = b
  | [], [], _ => rfl
  | x :: a, y :: b, e => by
    rw [List.map_cons, List.map_cons] at e
    injection e with e1 e2
    rw [h e1, map_inj h e2]
  | [], _ :: _, e => by simp at e
  | _ :: _, [], e => by simp at e
theorem Sd.k_inj {s t : Sd} (h : s.k = t.k) : s = t := by
  obtain ⟨r, a, p, m⟩ := s
  obtain ⟨r', a', p', m'⟩ := t
  unfold Sd.k at h
  simp only [NestedKey.tup.injEq, List.cons.injEq, NestedKey.num.injEq, and_true] at h
  obtain ⟨h1, h2, h3, h4⟩ := h
  have e3 := map_inj ptK_inj h3
  have e4 := map_inj (f := wsK) (fun {x y} e => map_inj wdK_inj (by unfold wsK at e; injection e)) h4
  rw [h1, h2, e3, e4]
theorem Sd.eqv (s t : Sd) : PyData.eqv s.d t.d = decide (s.k = t.k) := by
  rw [← s.k_d, ← t.k_d, nk_eqv, NestedKey.decide_eq]
/-! ### what is found one from another: the fields of a Finds -/
def fF (v0 v1 v2 v3 : V) : List (Str × V) := [("limit", v0), ("things", v1), ("ways", v2), ("taken", v3)]
theorem fF_limit {v0 v1 v2 v3 : V} : (fF v0 v1 v2 v3).lookup ("limit" : Str) = some v0 := by unfold fF; rw [lookup_put, if_pos rfl]
theorem fF_things {v0 v1 v2 v3 : V} : (fF v0 v1 v2 v3).lookup ("things" : Str) = some v1 := by unfold fF; rw [lookup_put, if_neg (by decide +kernel)]; rw [lookup_put, if_pos rfl]
theorem fF_ways {v0 v1 v2 v3 : V} : (fF v0 v1 v2 v3).lookup ("ways" : Str) = some v2 := by unfold fF; rw [lookup_put, if_neg (by decide +kernel)]; rw [lookup_put, if_neg (by decide +kernel)]; rw [lookup_put, if_pos rfl]
theorem fF_taken {v0 v1 v2 v3 : V} : (fF v0 v1 v2 v3).lookup ("taken" : Str) = some v3 := by unfold fF; rw [lookup_put, if_neg (by decide +kernel)]; rw [lookup_put, if_neg (by decide +kernel)]; rw [lookup_put, if_neg (by decide +kernel)]; rw [lookup_put, if_pos rfl]
theorem putf_taken {v0 v1 v2 v3 y : V} : putF "taken" y (fF v0 v1 v2 v3) = fF v0 v1 v2 y := by unfold fF putF; rw [if_neg (by decide +kernel)]; unfold putF; rw [if_neg (by decide +kernel)]; unfold putF; rw [if_neg (by decide +kernel)]; unfold putF; rw [if_pos rfl]
theorem putg_limit {v0 : V} : putF ("limit" : Str) v0 ([] : List (Str × V)) = ([("limit", v0)] : List (Str × V)) := by rfl
theorem putg_things {v0 v1 : V} : putF ("things" : Str) v1 ([("limit", v0)] : List (Str × V)) = ([("limit", v0), ("things", v1)] : List (Str × V)) := by unfold putF; rw [if_neg (by decide +kernel)]; rfl
theorem putg_ways {v0 v1 v2 : V} : putF ("ways" : Str) v2 ([("limit", v0), ("things", v1)] : List (Str × V)) = ([("limit", v0), ("things", v1), ("ways", v2)] : List (Str × V)) := by unfold putF; rw [if_neg (by decide +kernel)]; unfold putF; rw [if_neg (by decide +kernel)]; rfl
theorem putg_taken {v0 v1 v2 v3 : V} : putF ("taken" : Str) v3 ([("limit", v0), ("things", v1), ("ways", v2)] : List (Str × V)) = ([("limit", v0), ("things", v1), ("ways", v2), ("taken", v3)] : List (Str × V)) := by unfold putF; rw [if_neg (by decide +kernel)]; unfold putF; rw [if_neg (by decide +kernel)]; unfold putF; rw [if_neg (by decide +kernel)]; rfl
structure FiC (K : PySem.W.Frag) (mg : Str → Option Value) (C : Addr) : Prop where
  cl : Cls K C
  n_limit : NoAttr K C "limit"
  n_things : NoAttr K C "things"
  n_ways : NoAttr K C "ways"
  n_taken : NoAttr K C "taken"
  mgC : mg "Finds" = some (.ref C)
structure Th where
  k : NestedKey
  q : Addr
  wl : Addr
  ns : List Int
def Th.e (t : Th) : NE := (t.k, t.q, .ref t.wl)
/-- a Finds stands at x: its things and ways, and how many were taken -/
structure FAt (P : Program) (w : World) (C : Addr) (H0 H : Hp) (x : Addr) (lim : Int) (ts : List Th) (tk : Nat) : Prop where
  ex : ∃ dx ls D, H x = some (.ins C dx (fF (.int lim) (.ref ls) (.ref D) (.int tk))) ∧ H ls = some (.lst (ts.map fun t => V.ref t.q)) ∧ H D = some (dN P w D (ts.map Th.e)) ∧ H0 x = none ∧ H0 ls = none ∧ H0 D = none ∧
    ∀ t ∈ ts, H t.wl = some (.lst (t.ns.map V.int)) ∧ H0 t.wl = none ∧ t.wl ≠ ls
  ks : ∀ t ∈ ts, Rp H (.ref t.q) t.k.data ∧ t.k.depth ≤ 8
  sm : Same H0 H
  nd : (ts.map Th.k).Nodup
theorem FAt.keys {P : Program} {w : World} {C : Addr} {H0 H : Hp} {x : Addr} {lim : Int} {ts : List Th} {tk : Nat} (F : FAt P w C H0 H x lim ts tk) : KeysN H (ts.map Th.e) := fun z hz => by
  obtain ⟨t, ht, rfl⟩ := List.mem_map.mp hz
  exact F.ks t ht
theorem FAt.same {P : Program} {w : World} {C : Addr} {H0 H H' : Hp} {x : Addr} {lim : Int} {ts : List Th} {tk : Nat} (F : FAt P w C H0 H x lim ts tk) (s : Same H H') : FAt P w C H0 H' x lim ts tk := by
  obtain ⟨⟨dx, ls, D, h1, h2, h3, n1, n2, n3, h4⟩, h5, h6, h7⟩ := F
  exact ⟨⟨dx, ls, D, s _ _ h1, s _ _ h2, s _ _ h3, n1, n2, n3, fun t ht => ⟨s _ _ (h4 t ht).1, (h4 t ht).2⟩⟩, fun t ht => ⟨(h5 t ht).1.keep (Tk.of s), (h5 t ht).2⟩, h6.trans s, h7⟩
theorem find_N {k : NestedKey} : ∀ (ts : List Th), valN (ts.map Th.e) k = (ts.find? fun t => decide (t.k = k)).map fun t => V.ref t.wl
  | [] => rfl
  | t :: ts => by
    have ih := find_N (k := k) ts
    unfold valN at ih ⊢
    by_cases h : t.k = k
    · simp [Th.e, h]
    · simpa [Th.e, h] using ih
theorem some_N {k : NestedKey} {ts : List Th} : (valN (ts.map Th.e) k).isSome = decide (k ∈ ts.map Th.k) := by
  rw [find_N, Option.isSome_map]
  cases e : ts.find? fun t => decide (t.k = k) with
  | some t =>
    have h1 := List.find?_some e
    have h2 := List.mem_of_find?_eq_some e
    exact (decide_eq_true (List.mem_map.mpr ⟨t, h2, of_decide_eq_true h1⟩)).symm
  | none =>
    refine (decide_eq_false fun h => ?_).symm
    obtain ⟨t, h2, h3⟩ := List.mem_map.mp h
    have := List.find?_eq_none.mp e t h2
    rw [decide_eq_true h3] at this
    exact this rfl
theorem at_nd : ∀ {ts : List Th} {i : Nat} {t : Th}, (ts.map Th.k).Nodup → ts[i]? = some t → valN (ts.map Th.e) t.k = some (.ref t.wl)
  | [], _, _, _, h => by simp at h
  | y :: ts, i, t, nd, h => by
    rw [find_N]
    cases i with
    | zero =>
      cases h
      simp
    | succ i =>
      rw [List.getElem?_cons_succ] at h
      rw [List.map_cons, List.nodup_cons] at nd
      have hm : t.k ∈ ts.map Th.k := List.mem_map.mpr ⟨t, List.mem_of_getElem? h, rfl⟩
      have hn : ¬ y.k = t.k := fun e => nd.1 (e ▸ hm)
      have ih := at_nd nd.2 h
      rw [find_N] at ih
      rw [List.find?_cons_of_neg (by simpa using hn)]
      exact ih
/-! ### methods that let a refusal out -/
structure MthR (P : Program) (w : World) (K : PySem.W.Frag) (mg : Str → Option Value) (base : Heap) (C : Addr) (m : Str) (k : Nat) (ps : List Str) (sp : Sp) : Prop where
  ex : ∃ (f : Addr) (fd : FuncData), Meth K C m f ∧ Binds K fd ps [] ∧ FnOk P w K mg base (L2.CX P w) k f fd ps sp
theorem pe_mthR {X : Cx} {C : Addr} {k : Nat} {ps : List Str} {sp : Sp} {m : Str} {pos apos : Pos} {e o : Expr} {es : List Expr} {t : TA} {ta : TE} {E : XK} {pl : Sem Bool} (M : MthR X.prog X.w X.K X.mg X.base C m k ps sp) (c : Cls X.K C) (hr : Room k X.A) (tk : Takes X (fun cls d _ H => E cls d H)) (he : PE X o ta) (ha : PA X (e :: es) t)
    (hst : starEach (e :: es) X.env = (false, eval e X.env) :: starEach es X.env := by rfl) (hpl : (backTo pos (starEach es X.env)).any (·.1) = false := by rfl)
    (ht : eval (.Call (.Attribute o m apos) (e :: es) [] pos) X.env = (do
      let ov ← eval o X.env
      standAt apos.atName
      let (f, first) ← holding [ov] (getMethod ov m pl)
      callWith pos f first (backTo pos (starEach (e :: es) X.env)) (backToKw pos (keywordEach [] X.env))) := by rfl) :
    PE X (.Call (.Attribute o m apos) (e :: es) [] pos) (tMeth C m sp [] E ta t) := by
  obtain ⟨f, fd, hm, hb, F⟩ := M.ex
  exact pe_meth he c hm F hr hb .nil (passes_call tk fun _ _ _ _ h => h) ha hst hpl ht
/-! ### calls with keywords in the body of a try -/
def tCallNS (n m : Nat) (sp : Sp) (gV : List V → List V → List V) (E : L2.St → XK) (t tk : TA) : TE := fun σ H Q => t σ H fun vs H1 => tk σ H1 fun zs H2 => vs.length = n ∧ zs.length = m ∧ sp (gV vs zs) H2 Q (E σ)
theorem rd_callNS {n m : Nat} {sp : Sp} {gV : List V → List V → List V} {E : L2.St → XK} {t tk : TA} {σ : L2.St} {H : Hp} {Q : VK} (h : t σ H fun vs H1 => tk σ H1 fun zs H2 => vs.length = n ∧ zs.length = m ∧ sp (gV vs zs) H2 Q (E σ)) : tCallNS n m sp gV E t tk σ H Q := h
section
variable {X : Cx} {CX : CXT} {k n : Nat} {f : Addr} {fd : FuncData} {ps ks : List Str} {sp : Sp} {E : L2.St → XK} {x : Str} {p pos : Pos} {e : Expr} {es : List Expr} {kws : List Keyword} {t tk : TA} {g : List Value → List Value → List Value} {gV : List V → List V → List V}
theorem run_fnNS {pins : List (Addr × Obj)} {σ : L2.St} {H : Hp} {s : Shared} {Q : VK} {us ws : List Value} {vs zs : List V} (F : FnOk X.prog X.w X.K X.mg X.base CX k f fd ps sp) (hr : Room k X.A) (hb : KBn X.K fd ps n ks g gV) (hx : PassesAt CX X σ (E σ)) (I : L2.Inv X pins σ H s) (r : Vals vs us) (rz : Vals zs ws)
    (l1 : vs.length = n) (l2 : zs.length = ks.length) (h : sp (gV vs zs) H Q (E σ)) : wpAny (model X.prog X.w) X.A (call (.ref f) us (ks.zip ws)) (EP X pins σ Q) X.xe s := by
  have to_ := hb.to s us ws I.kIn (r.length.symm.trans l1) (rz.length.symm.trans l2)
  refine wpAny_call (codeAny_mono (F.run X.A X.stack s H ⟨us, ks.zip ws⟩ (g us ws) (gV vs zs) Q (E σ) hr I.env0 to_ (hb.rel r rz) h) fun r1 s' hq => ?_)
  match r1, hq with
  | .error e, hq => exact hx pins H s e s' I hq
  | .ok (.ret u), hq => exact I.after hq
  | .ok .next, hq => exact hq.elim
  | .ok .brk, hq => exact hq.elim
  | .ok .cont, hq => exact hq.elim
theorem pe_callNS (F : FnOk X.prog X.w X.K X.mg X.base CX k f fd ps sp) (hr : Room k X.A) (hg : Gl X x) (hm : X.mg x = some (.ref f)) (hk : PySem.W.keepIn X.K (.ref f) = true) (hb : KBn X.K fd ps n ks g gV) (hx : ∀ σ, PassesAt CX X σ (E σ)) (ha : PA X (e :: es) t) (hkw : PK X kws tk)
    (hall : (backToKw pos (keywordEach kws X.env)).all (·.1.isSome) = true := by rfl) (hks : (backToKw pos (keywordEach kws X.env)).filterMap (·.1) = ks := by rfl) (hdb : (x == ("__debug__" : Str)) = false := by decide) (he : starEach (e :: es) X.env = (false, eval e X.env) :: starEach es X.env := by rfl)
    (hpl : ((backTo pos (starEach (e :: es) X.env)).any (·.1) || (backToKw pos (keywordEach kws X.env)).any (·.1.isNone)) = false := by rfl) : PE X (.Call (.Name x p) (e :: es) kws pos) (tCallNS n ks.length sp gV E t tk) := by
  refine ⟨fun pins s σ H Q I h => wpAny_Call_Name_kw (ld_glob I hg hm ?_ hdb)⟩
  refine PySem.W.callWith_KW (h₀ := X.base) I.ok.mod.kin hk hall (thn (ha.run pos pins s σ H _ I h) fun us s1 ⟨vs, H1, I1, r, q⟩ => thn (hkw.run pos pins s1 σ H1 _ I1 q) fun ws s2 ⟨zs, H2, I2, rz, l1, l2, q2⟩ => ⟨I2.kIn, ?_⟩) hpl he
  rw [hks]
  exact run_fnNS F hr hb (hx σ) I2 r rz l1 l2 q2
theorem pe_callNS0 (F : FnOk X.prog X.w X.K X.mg X.base CX k f fd ps sp) (hr : Room k X.A) (hg : Gl X x) (hm : X.mg x = some (.ref f)) (hk : PySem.W.keepIn X.K (.ref f) = true) (hb : KBn X.K fd ps 0 ks g gV) (hx : ∀ σ, PassesAt CX X σ (E σ)) (hkw : PK X kws tk)
    (hall : (backToKw pos (keywordEach kws X.env)).all (·.1.isSome) = true := by rfl) (hks : (backToKw pos (keywordEach kws X.env)).filterMap (·.1) = ks := by rfl) (hdb : (x == ("__debug__" : Str)) = false := by decide)
    (hpl : ((backTo pos (starEach [] X.env)).any (·.1) || (backToKw pos (keywordEach kws X.env)).any (·.1.isNone)) = false := by rfl) : PE X (.Call (.Name x p) [] kws pos) (tCallNS 0 ks.length sp gV E tNil tk) := by
  refine ⟨fun pins s σ H Q I h => wpAny_Call_Name_kw (ld_glob I hg hm ?_ hdb)⟩
  refine PySem.W.callWith_KW0 (h₀ := X.base) I.ok.mod.kin hk hall (thn (hkw.run pos pins s σ H _ I h) fun ws s2 ⟨zs, H2, I2, rz, l1, l2, q2⟩ => ⟨I2.kIn, ?_⟩) hpl
  rw [hks]
  exact run_fnNS (us := []) (vs := []) F hr hb (hx σ) I2 .nil rz l1 l2 q2
end
end Rg

/-! dicts keyed by nested tuples: laid by a comprehension, walked while they stand -/
namespace Rg
open PySem PySem.Spec PyProof.Rows L2
/-- a key laid: a new one comes last; one that is there keeps its own tuple and takes the value -/
def putN (xs : List NE) (k : NestedKey) (q : Addr) (v : V) : List NE := if (valN xs k).isSome then xs.map fun x => if x.1 = k then (x.1, x.2.1, v) else x else xs ++ [(k, q, v)]
theorem putN_new {xs : List NE} {k : NestedKey} {q : Addr} {v : V} (h : valN xs k = none) : putN xs k q v = xs ++ [(k, q, v)] := by
  unfold putN
  rw [h]
  rfl
theorem putN_old {xs : List NE} {k : NestedKey} {q : Addr} {v y : V} (h : valN xs k = some y) : putN xs k q v = xs.map fun x => if x.1 = k then (x.1, x.2.1, v) else x := by
  unfold putN
  rw [h]
  rfl
theorem putN_length (xs : List NE) (k : NestedKey) (q : Addr) (v : V) : (putN xs k q v).length ≤ xs.length + 1 := by
  unfold putN
  split <;> simp
theorem putN_keys {H : Hp} {xs : List NE} {k : NestedKey} {q : Addr} {v : V} (h : KeysN H xs) (r : Rp H (.ref q) k.data) (hd : k.depth ≤ 8) : KeysN H (putN xs k q v) := by
  unfold putN
  split
  · intro x hx
    obtain ⟨y, hy, rfl⟩ := List.mem_map.mp hx
    split
    · exact h y hy
    · exact h y hy
  · exact h.snoc r hd
theorem map_REnt {k : NestedKey} {v : V} {r : Value} (rv : RelV v r) : ∀ {xs : List NE} {ys : List (NestedKey × Addr × Value)}, Paired REnt xs ys → Paired REnt (xs.map fun x => if x.1 = k then (x.1, x.2.1, v) else x) (ys.map (putAt k r))
  | _, _, .nil => .nil
  | _, _, @Paired.cons _ _ _ x y xs ys h t => by
    refine .cons ?_ (map_REnt rv t)
    show REnt (if x.1 = k then (x.1, x.2.1, v) else x) (if y.1 = k then (y.1, y.2.1, r) else y)
    by_cases e : x.1 = k
    · rw [if_pos e, if_pos (h.1 ▸ e)]
      exact ⟨h.1, h.2.1, rv⟩
    · rw [if_neg e, if_neg (fun z => e (h.1.trans z))]
      exact h
theorem putN_rel {xs : List NE} {ys : List (NestedKey × Addr × Value)} {k : NestedKey} {q : Addr} {v : V} {r : Value} (pr : Paired REnt xs ys) (rv : RelV v r) : Paired REnt (putN xs k q v) (storedH ys k q r) := by
  rcases at_N (k := k) pr with ⟨y, p, e1, e2, _⟩ | ⟨e1, e2⟩
  · rw [putN_old e1, storedH_old e2]
    exact map_REnt rv pr
  · rw [putN_new e1, storedH_new e2]
    exact Paired.snoc pr ⟨rfl, rfl, rv⟩
section
variable {X : Cx}
theorem put_dN {pins : List (Addr × Obj)} {σ : L2.St} {H : Hp} {s : Shared} {E : Value → Shared → Prop} {a q : Addr} {k : NestedKey} {xs : List NE} {v : V} {r : Value} {Q : Unit → Shared → Prop} (hu : X.A.units + 64 < cLine) (I : L2.Inv X pins σ H s)
    (e : H a = some (dN X.prog X.w a xs)) (ks : KeysN H xs) (rk : Rp H (.ref q) k.data) (dk : k.depth ≤ 8) (hl : xs.length ≤ 1000) (rv : RelV v r)
    (h : ∀ s', L2.Inv X pins σ (upd H a (dN X.prog X.w a (putN xs k q v))) s' → Q () s') : wpAny (model X.prog X.w) X.A (dictSet a (.ref q) r) Q E s := by
  obtain ⟨hd, hz, ys, pr, dd⟩ := dn_of I.hok e ks
  refine wpAny_dictSet_heap (hsz := by rw [← Paired.length pr]; exact hz) (show (nestedKind X.prog X.w).room X.A by show X.A.units + 8 < cLine; omega) (⟨nk_is I.hok k rk rfl, dk⟩ : (nestedKind X.prog X.w).is s.heap k q) dd fun h' dd' hs => h _ ?_
  have he : ∃ z, h'.get? a = some z := let ⟨z, _, _, hz, _⟩ := dd'; ⟨z, hz⟩
  refine d_write I (by rw [e]; exact True.intro) hs he (dn_ok hd ?_ (putN_rel pr rv) dd')
  have := putN_length xs k q v
  rw [sizeLine_eq]
  omega
end
/-! ### locked, as it is while a loop walks it -/
section
variable {X : Cx}
theorem dnF_of {P : Program} {w : World} {H : Hp} {h : Heap} {a : Addr} {o : Obj} {xs : List NE} (ok : HOk P w H h) (e : H a = some (.frz o (dN P w a xs))) (ks : KeysN H xs) :
    (a == sysModules) = false ∧ h.get? a = some o ∧ o.ExactDict ∧ ∃ ys es ep, o.data = .dict es ep ∧ es.size = xs.length ∧ Paired REnt xs ys ∧ h.DictOfH (nestedKind P w) a ys ∧ ∀ i (hi : i < es.size), ∃ x, xs[i]? = some x ∧ es[i].key = .ref x.2.1 := by
  obtain ⟨e1, ⟨h1, h2, ys, h3, o', es, ep, g1, g2, g3, g4, g5⟩, _, _⟩ := (show ObjOk P w H h a (.frz o (dN P w a xs)) from ok a _ e)
  rw [e1] at g1
  cases g1
  have hl : es.size = ys.length := size_of_entries g4
  refine ⟨h1, e1, g2, ys, es, ep, g3, by rw [hl, ← Paired.length h3], h3, ⟨o, es, ep, e1, g2, g3, g4, keys_is ok h3 ks, g5⟩, fun i hi => ?_⟩
  have hx : i < xs.length := by rw [Paired.length h3, ← hl]; exact hi
  obtain ⟨b, hb, r⟩ := paired_get h3 (List.getElem?_eq_getElem hx)
  have q := entry_at g4 i
  rw [hb, Array.getElem?_eq_getElem hi, Option.map_some] at q
  refine ⟨xs[i], List.getElem?_eq_getElem hx, ?_⟩
  rw [Option.some.inj q]
  show Value.ref b.2.1 = _
  rw [r.2.1]
def rInNF (P : Program) (w : World) : R2 := fun x y H Q => ∃ (q a : Addr) (o : Obj) (k : NestedKey) (xs : List NE), x = .ref q ∧ y = .ref a ∧ H a = some (.frz o (dN P w a xs)) ∧ KeysN H xs ∧ Rp H (.ref q) k.data ∧ k.depth ≤ 8 ∧ Q (.bl (valN xs k).isSome) H
theorem op_inNF (hu : X.A.units + 64 < cLine) {P : Program} {w : World} (h1 : X.prog = P := by rfl) (h2 : X.w = w := by rfl) : OpR X (compareOp .In) (rInNF P w) := by
  subst h1 h2
  intro pins s σ H x y v u Q I rx ry h
  obtain ⟨q, a, o, k, xs, rfl, rfl, e, ks, rk, dk, hq⟩ := h
  obtain rfl : v = Value.ref q := rx
  obtain rfl : u = Value.ref a := ry
  obtain ⟨hd, _, _, ys, _, _, _, _, pr, dd, _⟩ := dnF_of I.hok e ks
  refine wpAny_in_heap (room8 hu) (⟨nk_is I.hok k rk rfl, dk⟩ : (nestedKind X.prog X.w).is s.heap k q) hd dd ?_
  rw [isSome_N pr]
  exact ⟨.bl _, H, I.tok _, rfl, hq⟩
end
/-- the keys, the dict as it stands under its lock -/
def Itn (P : Program) (w : World) (d : Addr) (o : Obj) (xs : List NE) : It :=
  ⟨fun i H => H d = some (.frz o (dN P w d xs)) ∧ KeysN H xs ∧ i < xs.length, fun i H x H' => H' = H ∧ ∃ e, xs[i]? = some e ∧ x = .ref e.2.1, fun i H => H d = some (.frz o (dN P w d xs)) ∧ KeysN H xs ∧ xs.length ≤ i⟩
theorem turn_keysN {P : Program} {w : World} {K : PySem.W.Frag} {tg : Expr} {d : Addr} {o : Obj} {es : Array DictEntry} {ep : Nat} {xs : List NE} (it : Addr) (hod : o.data = .dict es ep) : Turn P w K tg (Itn P w d o xs) [it] it (fun i h => h.IsKeyIter it d i xs.length ep) where
  mem := List.mem_singleton.mpr rfl
  obj := fun i h st b hb => by
    obtain rfl := List.mem_singleton.mp hb
    obtain ⟨oi, e, _, dd⟩ := st
    refine ⟨oi, e, fun v z => ?_⟩
    rw [dd] at z
    cases z
  keep := fun i h h' st k => st.at fun oi e => k it (List.mem_singleton.mpr rfl) oi e
  item := by
    intro X hP hw hK hc i pins s σ H E I hf st hg
    subst hP hw hK
    obtain ⟨hd, ks, hi⟩ := hg
    obtain ⟨f0, f1, f2, f3, f4, f5⟩ := hf it (List.mem_singleton.mpr rfl)
    obtain ⟨_, g1, g2, ys, es', ep', g3, hz, _, _, ent⟩ := dnF_of I.hok hd ks
    obtain ⟨rfl, rfl⟩ := dict_ep hod g3
    rw [← hz] at st hi
    obtain ⟨x, hx, hk⟩ := ent i hi
    refine wpAny_pyNext_keys_item_raw st ⟨o, g1, g2, g3⟩ hi fun h' st' sb => ?_
    obtain ⟨oi, e, c, dd⟩ := id st'
    rw [hz] at st'
    exact ⟨_, rfl, go_of (s := { s with heap := h' }) e c dd (by decide) ⟨.ref x.2.1, H, I.turned (t' := s.toks) (fun b ob hb e => (sb.2 b hb).trans e) f0 f1 f3 f4 f5, hk, ⟨rfl, x, hx, rfl⟩, st', fun b hb => (hf b hb).1⟩⟩
  done := by
    intro X hP hw hK hc i pins s σ H E I hf st hg
    subst hP hw hK
    obtain ⟨hd, ks, hi⟩ := hg
    obtain ⟨f0, f1, f2, f3, f4, f5⟩ := hf it (List.mem_singleton.mpr rfl)
    obtain ⟨_, g1, g2, ys, es', ep', g3, hz, _, _, _⟩ := dnF_of I.hok hd ks
    obtain ⟨rfl, rfl⟩ := dict_ep hod g3
    rw [← hz] at st hi
    exact wpAny_pyNext_keys_end_raw (I.ok.hd hc) st ⟨o, g1, g2, g3⟩ hi fun h' eb => ⟨rfl, I.turned (t' := s.toks) (fun b ob hb e => eb b ob hb e) f0 f1 f3 f4 f5⟩
  self := fun A i s Q E st h => wpAny_pyIter_keyiter st h
def iKeysN (P : Program) (w : World) (td : TE) : TI := fun σ H R => td σ H fun x H1 => ∃ d o xs, x = .ref d ∧ H1 d = some (.frz o (dN P w d xs)) ∧ KeysN H1 xs ∧ R (Itn P w d o xs) H1
theorem pi_keysN {X : Cx} {tg e : Expr} {td : TE} (he : PE X e td) {P : Program} {w : World} (h1 : X.prog = P := by rfl) (h2 : X.w = w := by rfl) : PI X tg e (iKeysN P w td) := by
  subst h1 h2
  refine ⟨fun pins s σ H R I h => thn (he.run pins s σ H _ I h) fun u s1 ⟨x, H1, I1, rx, d, o, xs, ex, hd, ks, q⟩ => ?_⟩
  subst ex
  obtain rfl : u = Value.ref d := rx
  obtain ⟨hs, g1, g2, ys, es, ep, g3, hz, _, _, _⟩ := dnF_of I1.hok hd ks
  refine wpAny_pyIter_dict_raw hs ⟨o, g1, g2, g3⟩ (pi_one (tk := s1.toks) I1 _ (turn_keysN _ g3) ⟨_, Heap.get?_push_size _ rfl, rfl, ?_⟩ q)
  rw [hz] <;> rfl
theorem walk_keysN {P : Program} {w : World} {d : Addr} {o : Obj} {xs : List NE} : Walk (Itn P w d o xs) xs.length (fun H => H d = some (.frz o (dN P w d xs)) ∧ KeysN H xs) (fun i H x H' => H' = H ∧ ∃ e, xs[i]? = some e ∧ x = .ref e.2.1) :=
  ⟨fun _ _ hi q => ⟨q.1, q.2, hi⟩, fun _ q => ⟨q.1, q.2, Nat.le_refl _⟩, fun _ _ _ _ _ _ y => y⟩
/-! ### {k: v for x in it}, keys nested tuples -/
section
variable {X : Cx}
/-- one turn's end: the key and its value go into the new dict at D -/
def LaysN (P : Program) (w : World) (D : Addr) (Nx : Hp → Prop) (y z : V) (H : Hp) : Prop := ∃ (q : Addr) (k : NestedKey) (xs : List NE), y = .ref q ∧ H D = some (dN P w D xs) ∧ KeysN H xs ∧ Rp H (.ref q) k.data ∧ k.depth ≤ 8 ∧ xs.length ≤ 1000 ∧ Nx (upd H D (dN P w D (putN xs k q z)))
def tDcN (P : Program) (w : World) (wi : TI) (g : TG) (tk tv : TE) (vs : List Nat) : TE := fun σ H Q => wi σ H fun J H1 => ∀ D, H1 D = none → ∃ W : Nat → Nat → Hp → Prop, (∃ m, W 0 m (upd H1 D (dN P w D []))) ∧ ∀ i m H, W i m H →
  (J.stop i H ∧ Q (.ref D) H) ∨ (J.go i H ∧ ∃ Nx : Hp → Prop, (∀ H', Nx H' → ∃ m', m' < m ∧ W (i + 1) m' H') ∧ ∀ x H', J.yld i H x H' → g x (wipe σ vs) H' fun σ2 H2 => wipe σ2 vs = wipe σ vs ∧ tk σ2 H2 fun y H3 => tv σ2 H3 fun z H4 => LaysN P w D Nx y z H4)
theorem pe_dcN {kx vx tg iter : Expr} {scope : Scope} {own : List (Str × Nat)} {pos : Pos} {wi : TI} {g : TG} {tk tv : TE} (hu : X.A.units + 64 < cLine) (hc : X.calm = true) (hN : X.N.Nodup) (hi : PI X tg iter wi) (ok : BlkOk X.N X.env.scope scope own)
    (hg : ∀ (s : Shared) (H : Hp) (C : Addr) (cl : List (Str × Addr)) (fp : List Addr), PG (X.blk s H scope (compEnvC scope cl C X.env) fp) tg g)
    (hk : ∀ (s : Shared) (H : Hp) (C : Addr) (cl : List (Str × Addr)) (fp : List Addr), PE (X.blk s H scope (compEnvC scope cl C X.env) fp) kx tk)
    (he : ∀ (s : Shared) (H : Hp) (C : Addr) (cl : List (Str × Addr)) (fp : List Addr), PE (X.blk s H scope (compEnvC scope cl C X.env) fp) vx tv) (hs : ∀ x, foldedSetIterable iter X.env x = pure x := by intro _; rfl)
    {P : Program} {w : World} (h1 : X.prog = P := by rfl) (h2 : X.w = w := by rfl) : PE X (.DictComp kx vx [⟨tg, iter, [], 0⟩] scope pos) (tDcN P w wi g tk tv (own.map (·.2))) := by
  subst h1 h2
  refine ⟨fun pins s σ H Q I h => ?_⟩
  rw [arm_eval_DictComp]
  have hfree : ∀ y ∈ scope.names, y.2 = .free → ∃ c, X.env.cells.lookup y.1 = some c := fun y hy e => I.ok.has _ ((ok.free y hy e).elim .inl .inr)
  refine wpAny_comprehension_free (use := none) rfl hs (closure_ok hfree) ok.kind (fun y hy e => by rw [ok.uniq y hy, e]) (thn (hi.run pins s σ H _ I h) fun _ s1 hx => thn hx fun _ s2 h2 => ?_)
  obtain ⟨it, fp, tn, J, H2, rfl, I2, T, st2, f2, q⟩ := h2
  refine wpAny_newObj_type (newEnv_comp ?_)
  generalize hD : s2.heap.objs.size = D
  have hDn : H2 D = none := I2.hok.fresh (Nat.le_of_eq hD)
  obtain ⟨W, ⟨m0, w0⟩, turn⟩ := q D hDn
  -- the new dict
  have lt2 : ∀ b ∈ fp, b < s2.heap.objs.size := fun b hb => let ⟨_, e, _⟩ := T.obj _ _ st2 b hb; Heap.lt_size e
  have I3 : L2.Inv X pins σ (upd H2 D (dN X.prog X.w D [])) ({ s2 with heap := s2.heap.push { cls := .type "dict", data := .dict #[] } } : Shared) := by
    subst hD
    exact I2.laid (t' := s2.toks) (fun _ _ e => Heap.get?_push_of_some _ e) (Nat.le_refl _) (dn_ok (beq_eq_false_iff_ne.mpr (Ne.symm (Nat.ne_of_lt I2.big))) (Nat.zero_le _) .nil (Heap.DictOfH.new s2.heap))
  have st3 : tn 0 (s2.heap.push { cls := .type "dict", data := .dict #[] }) := T.keep _ _ _ st2 fun _ _ _ e => Heap.get?_push_of_some _ e
  have f3 : ∀ b ∈ fp, FpOk X pins (upd H2 D (dN X.prog X.w D [])) b ∧ b < (s2.heap.push { cls := .type "dict", data := .dict #[] }).objs.size := fun b hb =>
    ⟨⟨by rw [upd_ne (hD ▸ Nat.ne_of_lt (lt2 b hb))]; exact (f2 b hb).1, (f2 b hb).2⟩, by rw [Heap.size_push]; exact Nat.lt_succ_of_lt (lt2 b hb)⟩
  clear hDn h
  generalize hs3 : ({ s2 with heap := s2.heap.push { cls := .type "dict", data := .dict #[] } } : Shared) = s3 at I3
  have e3 : s2.heap.push { cls := .type "dict", data := .dict #[] } = s3.heap := by rw [← hs3]
  rw [e3] at st3 f3
  generalize hH3 : upd H2 D (dN X.prog X.w D []) = H3 at I3 w0 f3
  have I4 := block_start I3 ok hN f3
  show codeAny _ _ (.compStart (.DictComp kx vx [⟨tg, iter, [], 0⟩] scope pos) 0 (.ref it) (.ref D) (compEnvC scope (cellsFrom (s3.heap.objs.size + 1) scope.names (cloFrom X.env.cells scope.names [])) s3.heap.objs.size X.env)) (compPost (model X.prog X.w) X.A X.xe none (EP X pins σ Q) (.ref D) s3.heap.objs.size) { s3 with heap := pushCells (s3.heap.push { cls := .type "dict", data := .dict #[] }) scope.names }
  have pg := hg s3 H3 s3.heap.objs.size (cellsFrom (s3.heap.objs.size + 1) scope.names (cloFrom X.env.cells scope.names [])) fp
  have pk := hk s3 H3 s3.heap.objs.size (cellsFrom (s3.heap.objs.size + 1) scope.names (cloFrom X.env.cells scope.names [])) fp
  have pv := he s3 H3 s3.heap.objs.size (cellsFrom (s3.heap.objs.size + 1) scope.names (cloFrom X.env.cells scope.names [])) fp
  generalize hce : compEnvC scope (cellsFrom (s3.heap.objs.size + 1) scope.names (cloFrom X.env.cells scope.names [])) s3.heap.objs.size X.env = ce at I4 pg pk pv ⊢
  have cL : ce.locals = s3.heap.objs.size := by rw [← hce]; rfl
  generalize hs4 : ({ s3 with heap := pushCells (s3.heap.push { cls := .type "dict", data := .dict #[] }) scope.names } : Shared) = s4 at I4 ⊢
  have st4 : tn 0 s4.heap := T.keep _ _ _ st3 fun _ _ _ e => by rw [← hs4]; exact pushCells_keeps _ _ _ _ (Heap.get?_push_of_some _ e)
  -- what the iterator's things keep in the block
  have own_ : ∀ {σ' : L2.St} {H' : Hp} {s' : Shared}, L2.Inv (X.blk s3 H3 scope ce fp) [] σ' H' s' → (∀ b ∈ fp, H' b = none) → ∀ b ∈ fp, FpOk (X.blk s3 H3 scope ce fp) [] H' b := fun {σ' H' s'} J' n b hb =>
    ⟨n b hb, (J'.ok.exf b hb).1, J'.ok.exfs b hb, .inl hb, (J'.ok.exf b hb).2, fun p hp => nomatch hp⟩
  refine (fun lp => codeAny_compStart_dict lp (T.self X.A 0 _ _ _ st4 lp)) (compLoop_anyD (fun n s' => ∃ i H', L2.Inv (X.blk s3 H3 scope ce fp) [] (wipe σ (own.map (·.2))) H' s' ∧ tn i s'.heap ∧ (∀ b ∈ fp, H' b = none) ∧ W i n H') ?_ m0 ⟨0, H3, I4, st4, fun b hb => (f3 b hb).1.1, w0⟩)
  rintro n s5 ⟨i, H5, I5, st5, n5, w5⟩
  rcases turn i n H5 w5 with ⟨stop, qq⟩ | ⟨go, Nx, hNx, step⟩
  · refine thnF (T.done (X.blk s3 H3 scope ce fp) rfl rfl rfl hc i [] s5 _ H5 (fun _ _ => False) I5 (own_ I5 n5) st5 stop) fun r s6 ⟨hr, I6⟩ => ?_
    subst hr
    have nC : H5 s3.heap.objs.size = none := cL ▸ (I6.free : H5 ce.locals = none)
    obtain ⟨m, hn, _⟩ := I6.loc
    refine ⟨m, (cL ▸ (hn : s6.heap.Ns ce.locals m) : s6.heap.Ns s3.heap.objs.size m), fun h'' sb => ?_⟩
    have I7 : L2.Inv X pins σ H5 s6 := I3.call' (ch := fp) I6.os I6.base I6.hok I6.bare fun b hb => ⟨(f3 b hb).1.2.2.2.1, (f3 b hb).1.2.1, (f3 b hb).1.2.2.2.2.1, (f3 b hb).1.2.2.2.2.2⟩
    obtain ⟨f0, f1, _, f3, f4, f5⟩ := I3.fpOk (Nat.le_refl _) nC
    exact ⟨.ref D, H5, I7.turned (t' := s6.toks) (fun b o hb e => (sb.2 b hb).trans e) f0 f1 f3 f4 f5, rfl, qq⟩
  · refine thnF (T.item (X.blk s3 H3 scope ce fp) rfl rfl rfl hc i [] s5 _ H5 (fun _ _ => False) I5 (own_ I5 n5) st5 go) fun r s6 ⟨u, hr, h6⟩ => ?_
    subst hr
    refine thnF h6 fun _ s7 ⟨x, H7, I7, r7, y7, st7, n7⟩ => ?_
    refine thnF (pg.run _ s7 _ H7 x u _ (I7.pinned (own_ I7 n7) (T.obj _ _ st7)) r7 (step x H7 y7)) fun _ s8 ⟨σ8, H8, I8, hw8, q8⟩ => ?_
    refine wpAny_pure ?_
    show wpAny _ _ (eval kx ce) _ _ s8
    refine thnF (pk.run _ s8 σ8 H8 _ I8 q8) fun z s9 ⟨y, H9, I9, r9, q9⟩ => ?_
    refine thnF (pv.run _ s9 σ8 H9 _ I9 q9) fun z2 s10 ⟨y2, H10, I10, r10, b, k, xs, ek, hD10, ks, rk, dk, hl, nx⟩ => ?_
    subst ek
    obtain rfl : z = Value.ref b := r9
    refine put_dN (X := X.blk s3 H3 scope ce fp) hu I10 hD10 ks rk dk hl r10 fun s11 I11 => ?_
    obtain ⟨m', hm, w'⟩ := hNx _ nx
    have pin' : ∀ b ∈ fp, ∀ o, s7.heap.get? b = some o → s11.heap.get? b = some o ∧ _ = none := fun b hb o e => let z := I11.pin (b, o) (List.mem_append_right _ (List.mem_append_right _ (mem_pinsAt hb e))); ⟨z.1, z.2.1⟩
    refine ⟨m', hm, i + 1, _, (I11.unpinned (pins := [])).weak (by rw [← hw8, wipe_length]) (fun j v e => ?_), T.keep _ _ _ st7 fun b hb o e => (pin' b hb o e).1, fun b hb => ?_, w'⟩
    · rw [← hw8] at e
      exact (wipe_some e).1
    · obtain ⟨o, e, _⟩ := T.obj _ _ st7 b hb
      exact (pin' b hb o e).2
end
theorem rd_dcN {P : Program} {w : World} {wi : TI} {g : TG} {tk tv : TE} {vs : List Nat} {σ : L2.St} {H : Hp} {Q : VK} (h : wi σ H fun J H1 => ∀ D, H1 D = none → ∃ W : Nat → Nat → Hp → Prop, (∃ m, W 0 m (upd H1 D (dN P w D []))) ∧ ∀ i m H, W i m H →
  (J.stop i H ∧ Q (.ref D) H) ∨ (J.go i H ∧ ∃ Nx : Hp → Prop, (∀ H', Nx H' → ∃ m', m' < m ∧ W (i + 1) m' H') ∧ ∀ x H', J.yld i H x H' → g x (wipe σ vs) H' fun σ2 H2 => wipe σ2 vs = wipe σ vs ∧ tk σ2 H2 fun y H3 => tv σ2 H3 fun z H4 => LaysN P w D Nx y z H4)) : tDcN P w wi g tk tv vs σ H Q := h
theorem dcN_it {P : Program} {w : World} {J : It} {n : Nat} {G : Hp → Prop} {Y : Nat → Hp → V → Hp → Prop} (wk : Walk J n G Y) {g : TG} {tk tv : TE} {vs : List Nat} {σ : L2.St} {H1 : Hp} {D : Addr} {Qd : Hp → Prop} (Pv : Nat → Hp → Prop) (h0 : Pv 0 (upd H1 D (dN P w D []))) (hG : ∀ i H, i ≤ n → Pv i H → G H)
    (hs : ∀ i x H H', i < n → Pv i H → Y i H x H' → g x (wipe σ vs) H' fun σ2 H2 => wipe σ2 vs = wipe σ vs ∧ tk σ2 H2 fun y H3 => tv σ2 H3 fun z H4 => LaysN P w D (Pv (i + 1)) y z H4) (hd : ∀ H, Pv n H → Qd H) :
    ∃ W : Nat → Nat → Hp → Prop, (∃ m, W 0 m (upd H1 D (dN P w D []))) ∧ ∀ i m H, W i m H →
      (J.stop i H ∧ Qd H) ∨ (J.go i H ∧ ∃ Nx : Hp → Prop, (∀ H', Nx H' → ∃ m', m' < m ∧ W (i + 1) m' H') ∧ ∀ x H', J.yld i H x H' → g x (wipe σ vs) H' fun σ2 H2 => wipe σ2 vs = wipe σ vs ∧ tk σ2 H2 fun y H3 => tv σ2 H3 fun z H4 => LaysN P w D Nx y z H4) := by
  refine ⟨fun i m H => m + i = n ∧ Pv i H, ⟨n, rfl, h0⟩, fun i m H h => ?_⟩
  obtain ⟨e, p⟩ := h
  have q := hG i H (by omega) p
  cases m with
  | zero =>
    obtain rfl : i = n := by omega
    exact .inl ⟨wk.stops H q, hd H p⟩
  | succ m => exact .inr ⟨wk.goes i H (by omega) q, Pv (i + 1), fun H' p' => ⟨m, Nat.lt_succ_self m, by omega, p'⟩, fun x H' y => hs i x H H' (by omega) p (wk.yields i H x H' (by omega) q y)⟩
theorem mem_putN {xs : List NE} {k k' : NestedKey} {q : Addr} {v : V} (hk : (valN xs k).isSome = decide (k ∈ xs.map (·.1))) : k' ∈ (putN xs k q v).map (·.1) ↔ k' ∈ xs.map (·.1) ∨ k' = k := by
  unfold putN
  split
  · rename_i h
    have e : (xs.map fun x => if x.1 = k then (x.1, x.2.1, v) else x).map (·.1) = xs.map (·.1) := by
      rw [List.map_map]
      refine List.map_congr_left fun x _ => ?_
      show (if x.1 = k then (x.1, x.2.1, v) else x).1 = x.1
      split <;> rfl
    rw [e]
    refine ⟨.inl, fun z => z.elim id fun z => ?_⟩
    rw [z]
    exact of_decide_eq_true (hk ▸ h)
  · rw [List.map_append, List.mem_append]
    exact or_congr Iff.rfl List.mem_singleton
theorem isSome_mem {k : NestedKey} : ∀ {xs : List NE}, (valN xs k).isSome = decide (k ∈ xs.map (·.1))
  | [] => rfl
  | x :: xs => by
    have ih := isSome_mem (k := k) (xs := xs)
    unfold valN at ih ⊢
    rw [List.map_cons]
    by_cases h : x.1 = k
    · rw [List.find?_cons_of_pos (by simpa using h)]
      exact (decide_eq_true (h ▸ List.mem_cons_self)).symm
    · rw [List.find?_cons_of_neg (by simpa using h), ih]
      refine decide_eq_decide.mpr ⟨List.mem_cons_of_mem _, fun z => ?_⟩
      rcases List.mem_cons.mp z with z | z
      · exact absurd z.symm h
      · exact z
/-- the dict has just these keys -/
structure HasN (H : Hp) (xs : List NE) (ks : List NestedKey) : Prop where
  keys : KeysN H xs
  mem : ∀ k, k ∈ xs.map (·.1) ↔ k ∈ ks
  len : xs.length ≤ ks.length
theorem HasN.keep {H H' : Hp} {xs : List NE} {ks : List NestedKey} (h : HasN H xs ks) (k : Tk H H') : HasN H' xs ks := ⟨h.keys.keep k, h.mem, h.len⟩
theorem HasN.nil {H : Hp} : HasN H [] [] := ⟨fun _ h => (nomatch h), fun _ => Iff.rfl, Nat.le_refl _⟩
theorem HasN.put {H : Hp} {xs : List NE} {ks : List NestedKey} {k : NestedKey} {q : Addr} {v : V} (h : HasN H xs ks) (r : Rp H (.ref q) k.data) (hd : k.depth ≤ 8) : HasN H (putN xs k q v) (ks ++ [k]) := by
  refine ⟨putN_keys h.keys r hd, fun k' => ?_, ?_⟩
  · rw [mem_putN isSome_mem, h.mem k', List.mem_append, List.mem_singleton]
  · have := putN_length xs k q v
    have := h.len
    rw [List.length_append]
    show _ ≤ ks.length + 1
    omega
theorem HasN.at {H : Hp} {xs : List NE} {ks : List NestedKey} (h : HasN H xs ks) (k : NestedKey) : (valN xs k).isSome = decide (k ∈ ks) := isSome_mem.trans (decide_eq_decide.mpr (h.mem k))
theorem rd_lock {t : TS} {D : Ends} {σ : L2.St} {H : Hp} {d : Addr} {u : HO} (h1 : H d = some u) (h2 : Mut (some u)) (h : ∀ od, t ⟨fun σ' H' => H' d = some (.frz od u) ∧ D.nx σ' (upd H' d u), fun v H' => H' d = some (.frz od u) ∧ D.rt v (upd H' d u), fun σ' H' => H' d = some (.frz od u) ∧ D.bk σ' (upd H' d u), fun σ' H' => H' d = some (.frz od u) ∧ D.ct σ' (upd H' d u)⟩ σ (upd H d (.frz od u))) : tLock t D σ H := ⟨d, u, h1, h2, h⟩
theorem rd_ikN {P : Program} {w : World} {td : TE} {σ : L2.St} {H : Hp} {R : It → Hp → Prop} (h : td σ H fun x H1 => ∃ d o xs, x = .ref d ∧ H1 d = some (.frz o (dN P w d xs)) ∧ KeysN H1 xs ∧ R (Itn P w d o xs) H1) : iKeysN P w td σ H R := h
theorem Tk.dn {P : Program} {w : World} {H : Hp} {q a : Addr} {xs : List NE} {o : HO} (h : H q = some (dN P w a xs)) : Tk H (upd H q o) := fun c ys e => by rw [upd_ne (ne_of e h (fun z => nomatch z))]; exact e
end Rg

/-! Comprehensions of three `for`s: what goes on below the first is told clause by clause. -/
namespace Rg
open PySem PySem.Spec PyProof.Rows L2
/-- one more `for`: its source, its target, its tests, the names of it and of those below it -/
structure Cl where
  wi : TI
  g : TG
  tt : TT
  vs : List Nat
/-- the `for`s below the first, then the item, put behind the list at D; Nx is reached behind the last turn -/
def tInn (te : TE) (D : Addr) : List Cl → L2.St → Hp → (Hp → Prop) → Prop
  | [], σ, H, Nx => te σ H fun y H7 => ∃ acc, H7 D = some (.lst acc) ∧ acc.length < sizeLine ∧ Nx (upd H7 D (.lst (acc ++ [y])))
  | c :: r, σ, H, Nx => c.wi σ H fun J H4 => ∃ W : Nat → Nat → Hp → Prop, (∃ m, W 0 m H4) ∧ ∀ j k H, W j k H →
      (J.stop j H ∧ Nx H) ∨ (J.go j H ∧ ∃ Nx1 : Hp → Prop, (∀ H', Nx1 H' → ∃ k', k' < k ∧ W (j + 1) k' H') ∧ ∀ x H', J.yld j H x H' → c.g x (wipe σ c.vs) H' fun σ3 H5 => wipe σ3 c.vs = wipe σ c.vs ∧ c.tt σ3 H5 fun b H6 =>
        if b = true then tInn te D r σ3 H6 Nx1 else Nx1 H6)
def tLcN (wi : TI) (g : TG) (tt : TT) (cs : List Cl) (te : TE) (vs : List Nat) : TE := fun σ H Q => wi σ H fun J H1 => ∀ D, H1 D = none → ∃ W : Nat → Nat → Hp → Prop, (∃ m, W 0 m (upd H1 D (.lst []))) ∧ ∀ i m H, W i m H →
  (J.stop i H ∧ Q (.ref D) H) ∨ (J.go i H ∧ ∃ Nx : Hp → Prop, (∀ H', Nx H' → ∃ m', m' < m ∧ W (i + 1) m' H') ∧ ∀ x H', J.yld i H x H' → g x (wipe σ vs) H' fun σ2 H2 => wipe σ2 vs = wipe σ vs ∧ tt σ2 H2 fun b H3 =>
    if b = true then tInn te D cs σ2 H3 Nx else Nx H3)
section
variable {prog : Program} {w : World} {A : Around} {R : Result → Shared → Prop} {s : Shared} {elt t it0 it1 : Expr} {ifs : List Expr} {cs : List Comprehension} {scope : Scope} {pos : Pos} {it acc : Value} {env : Env} {i j : Nat}
/-- what a turn of a `for` that isn't the last is -/
def TurnGo (e : Expr) (i j : Nat) (t it0 it1 : Expr) (ifs : List Expr) (it acc : Value) (env : Env) : Prop := compTurn e i it acc env = (do
      standAt it0.pos
      match ← pyNext it with
      | none => pure (.done .next)
      | some v =>
        letOwnedTupleGo t it v
        assign t env v
        let mut ok := true
        for c in ifs do
          if ok then ok ← isTrue c env (eval c env)
        if ok then
          let x ← eval it1 env
          standAt it1.pos
          let x ← foldedSetIterable it1 env x
          let _ ← runOwn (.compStart e j (← holding [x] (pyIter x)) acc env) env
        again (.compLoop e i it acc env))
theorem loop_go (heq : TurnGo (.ListComp elt cs scope pos) i j t it0 it1 ifs it acc env) (hs : ∀ x, foldedSetIterable it1 env x = pure x) (I : Nat → Shared → Prop)
    (turn : ∀ n s, I n s → wpAny (model prog w) A (pyNext it) (fun r s₁ => match r with
      | none => R (.ok .next) s₁
      | some v => wpAny (model prog w) A (letOwnedTupleGo t it v) (fun _ s₁' => wpAny (model prog w) A (assign t env v) (fun _ s₂ =>
          wpAny (model prog w) A (forIn ifs true fun c r => if r = true then do let ok ← isTrue c env (eval c env); pure (ForInStep.yield ok) else pure (ForInStep.yield r)) (fun ok s₃ =>
            if ok = true then wpAny (model prog w) A (eval it1 env) (fun x s₄ => wpAny (model prog w) A (pyIter x) (fun it1' s₅ =>
              codeAny (model prog w) A (.compStart (.ListComp elt cs scope pos) j it1' acc env) (fun r s' => match r with
                | .ok _ => ∃ m, m < n ∧ I m s'
                | .error _ => False) s₅) (notedBy (model prog w) A env fun e s' => R (.error e) s') s₄) (notedBy (model prog w) A env fun e s' => R (.error e) s') s₃
            else ∃ m, m < n ∧ I m s₃) (notedBy (model prog w) A env fun e s' => R (.error e) s') s₂) (notedBy (model prog w) A env fun e s' => R (.error e) s') s₁') (notedBy (model prog w) A env fun e s' => R (.error e) s') s₁) (notedBy (model prog w) A env fun e s' => R (.error e) s') s)
    (n : Nat) (h : I n s) : codeAny (model prog w) A (.compLoop (.ListComp elt cs scope pos) i it acc env) R s := by
  refine codeAny_loop rfl I (fun n s hI => ?_) n h
  show wpAny _ A ((compTurn (.ListComp elt cs scope pos) i it acc env).onRaise (fun x => do noteFrame x env; theTreesLotGoes x)) _ _ s
  refine wpAny_noted ?_
  rw [heq]
  refine wpAny_bind (wpAny_standAt (wpAny_bind (wpAny_mono (turn n s hI) (fun r s₁ h₁ => ?_) fun _ _ h' => h')))
  cases r with
  | none => exact wpAny_pure h₁
  | some v =>
    refine wpAny_bind (wpAny_mono h₁ (fun _ s₁' h₁' => ?_) fun _ _ h' => h')
    refine wpAny_bind (wpAny_mono h₁' (fun _ s₂ h₂ => wpAny_bind (wpAny_mono h₂ (fun ok s₃ h₃ => ?_) fun _ _ h' => h')) fun _ _ h' => h')
    cases ok with
    | false => exact wpAny_pure ⟨rfl, h₃⟩
    | true =>
      refine wpAny_bind (wpAny_mono h₃ (fun x s₄ h₄ => ?_) fun _ _ h' => h')
      refine wpAny_bind (wpAny_standAt (wpAny_bind (wpAny_of_eq (hs x) (wpAny_bind (wpAny_holding (wpAny_mono h₄ (fun it1 s₅ h₅ => ?_) fun _ _ h' => h'))))))
      refine wpAny_bind (wpAny_runOwn ?_)
      rw [Around.mark_none]
      refine codeAny_mono h₅ fun r s' hr => ?_
      cases r with
      | ok f =>
        first
          | exact wpAny_pure ⟨rfl, hr⟩
          | exact wpAny_bind (wpAny_pure (wpAny_pure ⟨rfl, hr⟩))
      | error e => exact hr.elim
/-- what a turn of the last `for` is -/
def TurnIn (e elt : Expr) (i : Nat) (t it0 : Expr) (ifs : List Expr) (it acc : Value) (env : Env) : Prop := compTurn e i it acc env = (do
      standAt it0.pos
      match ← pyNext it with
      | none => pure (.done .next)
      | some v =>
        letOwnedTupleGo t it v
        assign t env v
        let mut ok := true
        for c in ifs do
          if ok then ok ← isTrue c env (eval c env)
        if ok then
          (do let _ ← call (.builtin "list.append") [acc, ← eval elt env])
        again (.compLoop e i it acc env))
theorem loop_in (heq : TurnIn (.ListComp elt cs scope pos) elt i t it0 ifs it acc env) (I : Nat → Shared → Prop)
    (turn : ∀ n s, I n s → wpAny (model prog w) A (pyNext it) (fun r s₁ => match r with
      | none => R (.ok .next) s₁
      | some v => wpAny (model prog w) A (letOwnedTupleGo t it v) (fun _ s₁' => wpAny (model prog w) A (assign t env v) (fun _ s₂ =>
          wpAny (model prog w) A (forIn ifs true fun c r => if r = true then do let ok ← isTrue c env (eval c env); pure (ForInStep.yield ok) else pure (ForInStep.yield r)) (fun ok s₃ =>
            if ok = true then wpAny (model prog w) A (eval elt env) (fun x s₄ =>
              wpAny (model prog w) A (call (.builtin "list.append") [acc, x]) (fun _ s₅ => ∃ m, m < n ∧ I m s₅) (notedBy (model prog w) A env fun e s' => R (.error e) s') s₄) (notedBy (model prog w) A env fun e s' => R (.error e) s') s₃
            else ∃ m, m < n ∧ I m s₃) (notedBy (model prog w) A env fun e s' => R (.error e) s') s₂) (notedBy (model prog w) A env fun e s' => R (.error e) s') s₁') (notedBy (model prog w) A env fun e s' => R (.error e) s') s₁) (notedBy (model prog w) A env fun e s' => R (.error e) s') s)
    (n : Nat) (h : I n s) : codeAny (model prog w) A (.compLoop (.ListComp elt cs scope pos) i it acc env) R s := by
  refine codeAny_loop rfl I (fun n s hI => ?_) n h
  show wpAny _ A ((compTurn (.ListComp elt cs scope pos) i it acc env).onRaise (fun x => do noteFrame x env; theTreesLotGoes x)) _ _ s
  refine wpAny_noted ?_
  rw [heq]
  refine wpAny_bind (wpAny_standAt (wpAny_bind (wpAny_mono (turn n s hI) (fun r s₁ h₁ => ?_) fun _ _ h' => h')))
  cases r with
  | none => exact wpAny_pure h₁
  | some v =>
    refine wpAny_bind (wpAny_mono h₁ (fun _ s₁' h₁' => ?_) fun _ _ h' => h')
    refine wpAny_bind (wpAny_mono h₁' (fun _ s₂ h₂ => wpAny_bind (wpAny_mono h₂ (fun ok s₃ h₃ => ?_) fun _ _ h' => h')) fun _ _ h' => h')
    cases ok with
    | false => exact wpAny_pure ⟨rfl, h₃⟩
    | true => exact wpAny_bind (wpAny_bind (wpAny_mono h₃ (fun x s₄ h₄ => wpAny_bind (wpAny_mono h₄ (fun _ s₅ h₅ => wpAny_pure (wpAny_pure ⟨rfl, h₅⟩)) fun _ _ h' => h')) fun _ _ h' => h'))
/-- the start of a `for` below the first: its loop, from an iterator of the iterator -/
def StartOk (e : Expr) (i : Nat) : Prop := ∀ (prog : Program) (w : World) (A : Around) (R : Result → Shared → Prop) (s : Shared) (it acc : Value) (env : Env), codeAny (model prog w) A (.compLoop e i it acc env) R s →
    wpAny (model prog w) A (pyIter it) (fun it' s' => codeAny (model prog w) A (.compLoop e i it' acc env) R s') (notedBy (model prog w) A env fun x s' => R (.error x) s') s →
    codeAny (model prog w) A (.compStart e i it acc env) R s
end
section
variable {elt t0 i0 t1 i1 t2 i2 : Expr} {ifs0 ifs1 ifs2 : List Expr} {scope : Scope} {pos : Pos} {it acc : Value} {env : Env}
theorem turn3_0 : TurnGo (.ListComp elt [⟨t0, i0, ifs0, 0⟩, ⟨t1, i1, ifs1, 0⟩, ⟨t2, i2, ifs2, 0⟩] scope pos) 0 1 t0 i0 i1 ifs0 it acc env := by
  unfold TurnGo
  rfl
theorem turn3_1 : TurnGo (.ListComp elt [⟨t0, i0, ifs0, 0⟩, ⟨t1, i1, ifs1, 0⟩, ⟨t2, i2, ifs2, 0⟩] scope pos) 1 2 t1 i1 i2 ifs1 it acc env := by
  unfold TurnGo
  rfl
theorem turn3_2 : TurnIn (.ListComp elt [⟨t0, i0, ifs0, 0⟩, ⟨t1, i1, ifs1, 0⟩, ⟨t2, i2, ifs2, 0⟩] scope pos) elt 2 t2 i2 ifs2 it acc env := by
  unfold TurnIn
  rfl
theorem start3_1 : StartOk (.ListComp elt [⟨t0, i0, ifs0, 0⟩, ⟨t1, i1, ifs1, 0⟩, ⟨t2, i2, ifs2, 0⟩] scope pos) 1 := by
  intro prog w A R s it acc env h0 h
  refine codeAny_of_tree ?_
  show wpAny _ _ ((compStart (.ListComp elt [⟨t0, i0, ifs0, 0⟩, ⟨t1, i1, ifs1, 0⟩, ⟨t2, i2, ifs2, 0⟩] scope pos) 1 it acc env).onRaise (fun x => do noteFrame x env; standAt theWindowsPlace)) _ _ s
  refine wpAny_notedAt ?_
  unfold compStart
  show wpAny _ _ (ask >>= _) _ _ s
  refine wpAny_bind (wpAny_askSetting (wpAny_ite ?_))
  split
  · first
      | exact wpAny_bind (wpAny_pure (wpAny_pure (And.intro rfl h0)))
      | exact wpAny_pure (And.intro rfl h0)
  · first
      | exact wpAny_bind (wpAny_rule (wpAny_bind (wpAny_standAt (wpAny_bind (wpAny_mono h (fun it' s' h' => wpAny_pure (And.intro rfl h')) fun _ _ x => x)))))
      | (refine wpAny_bind (wpAny_rule ?_); show wpAny _ _ (standAt i1.pos >>= _) _ _ s; exact wpAny_bind (wpAny_standAt (wpAny_bind (wpAny_mono h (fun it' s' h' => wpAny_pure (And.intro rfl h')) fun _ _ x => x))))
theorem start3_2 : StartOk (.ListComp elt [⟨t0, i0, ifs0, 0⟩, ⟨t1, i1, ifs1, 0⟩, ⟨t2, i2, ifs2, 0⟩] scope pos) 2 := by
  intro prog w A R s it acc env h0 h
  refine codeAny_of_tree ?_
  show wpAny _ _ ((compStart (.ListComp elt [⟨t0, i0, ifs0, 0⟩, ⟨t1, i1, ifs1, 0⟩, ⟨t2, i2, ifs2, 0⟩] scope pos) 2 it acc env).onRaise (fun x => do noteFrame x env; standAt theWindowsPlace)) _ _ s
  refine wpAny_notedAt ?_
  unfold compStart
  show wpAny _ _ (ask >>= _) _ _ s
  refine wpAny_bind (wpAny_askSetting (wpAny_ite ?_))
  split
  · first
      | exact wpAny_bind (wpAny_pure (wpAny_pure (And.intro rfl h0)))
      | exact wpAny_pure (And.intro rfl h0)
  · first
      | exact wpAny_bind (wpAny_rule (wpAny_bind (wpAny_standAt (wpAny_bind (wpAny_mono h (fun it' s' h' => wpAny_pure (And.intro rfl h')) fun _ _ x => x)))))
      | (refine wpAny_bind (wpAny_rule ?_); show wpAny _ _ (standAt i2.pos >>= _) _ _ s; exact wpAny_bind (wpAny_standAt (wpAny_bind (wpAny_mono h (fun it' s' h' => wpAny_pure (And.intro rfl h')) fun _ _ x => x))))
end
section
variable {X : Cx} {s0 : Shared} {H0 : Hp} {scope : Scope} {ce : Env} {fp : List Addr} {elt : Expr} {cs : List Comprehension} {scp : Scope} {pos : Pos} {te : TE} {D : Addr}
/-- the `for`s from one on do what is told of them -/
def InnOk (X : Cx) (s0 : Shared) (H0 : Hp) (scope : Scope) (ce : Env) (fp : List Addr) (e : Expr) (i : Nat) (iter : Expr) (te : TE) (D : Addr) (c : Cl) (r : List Cl) : Prop :=
  ∀ (pins : List (Addr × Obj)) (s : Shared) (σ : L2.St) (H : Hp) (Nx : Hp → Prop) (Post : Shared → Prop) (E : Value → Shared → Prop), Inv (X.blk s0 H0 scope ce fp) pins σ H s → tInn te D (c :: r) σ H Nx → (∀ H' s', Inv (X.blk s0 H0 scope ce fp) pins (wipe σ c.vs) H' s' → Nx H' → Post s') →
    wpAny (model X.prog X.w) X.A (eval iter ce) (fun xv s4 => wpAny (model X.prog X.w) X.A (pyIter xv) (fun it s5 => codeAny (model X.prog X.w) X.A (.compStart e i it (.ref D) ce) (fun r s' => match r with
      | .ok _ => Post s'
      | .error _ => False) s5) E s4) E s
theorem inn_last {i : Nat} {tg iter : Expr} {ifs : List Expr} {c : Cl} (hc : X.calm = true) (st : StartOk (.ListComp elt cs scp pos) i) (tn : ∀ it, TurnIn (.ListComp elt cs scp pos) elt i tg iter ifs it (.ref D) ce)
    (pi : PI (X.blk s0 H0 scope ce fp) tg iter c.wi) (pg : PG (X.blk s0 H0 scope ce fp) tg c.g) (pt : PTs (X.blk s0 H0 scope ce fp) ifs c.tt) (pe : PE (X.blk s0 H0 scope ce fp) elt te) : InnOk X s0 H0 scope ce fp (.ListComp elt cs scp pos) i iter te D c [] := by
  intro pins s σ H Nx Post E I h hP
  refine thnF (pi.run pins s σ H _ I h) fun xv s10 hx => thnF hx fun itv s11 h11 => ?_
  obtain ⟨it1, fp1, tn1, J1, H11, e1, I11, T1, st11, f11, W1, ⟨m1, w1⟩, turn1⟩ := h11
  subst e1
  have stat1 : ∀ {H' : Hp}, (∀ b ∈ fp1, H' b = none) → ∀ b ∈ fp1, FpOk (X.blk s0 H0 scope ce fp) pins H' b := fun hn b hb => ⟨hn b hb, (f11 b hb).2⟩
  have loop1 : codeAny (model X.prog X.w) X.A (.compLoop (.ListComp elt cs scp pos) i (.ref it1) (.ref D) ce) (fun r s' => match r with
      | .ok _ => Post s'
      | .error _ => False) s11 := by
    refine loop_in (tn _) (fun k s' => ∃ j H', Inv (X.blk s0 H0 scope ce fp) pins (wipe σ c.vs) H' s' ∧ tn1 j s'.heap ∧ (∀ b ∈ fp1, H' b = none) ∧ W1 j k H') ?_ m1 ⟨0, H11, I11.weak (wipe_length _ _) (fun j v e => (wipe_some e).1), st11, fun b hb => (f11 b hb).1, w1⟩
    rintro k s12 ⟨j, H12, I12, st12, n12, w12⟩
    rcases turn1 j k H12 w12 with ⟨stop1, nx1⟩ | ⟨go1, Nx1, hNx1, step1⟩
    · refine thnF (T1.done (X.blk s0 H0 scope ce fp) rfl rfl rfl hc j _ s12 (wipe σ c.vs) H12 (fun _ _ => False) I12 (stat1 n12) st12 stop1) fun r s13 ⟨hr, I13⟩ => ?_
      subst hr
      exact hP _ _ I13 nx1
    · refine thnF (T1.item (X.blk s0 H0 scope ce fp) rfl rfl rfl hc j _ s12 (wipe σ c.vs) H12 (fun _ _ => False) I12 (stat1 n12) st12 go1) fun r s13 ⟨u1, hr, h13⟩ => ?_
      subst hr
      refine thnF h13 fun _ s14 ⟨x1, H14, I14, r14, y14, st14, n14⟩ => ?_
      have I14' := I14.pinned (stat1 n14) (T1.obj _ _ st14)
      refine thnF (pg.run _ s14 (wipe σ c.vs) H14 x1 u1 _ I14' r14 (step1 x1 H14 y14)) fun _ s15 ⟨σ15, H15, I15, hw15, q15⟩ => ?_
      refine thnF (pt.run _ s15 σ15 H15 _ I15 q15) fun b1 s16 ⟨H16, I16, q16⟩ => ?_
      have fin1 : ∀ {s' : Shared} {H' : Hp}, Inv (X.blk s0 H0 scope ce fp) (pins ++ pinsAt fp1 s14.heap) σ15 H' s' → Nx1 H' → ∃ m, m < k ∧ ∃ j H', Inv (X.blk s0 H0 scope ce fp) pins (wipe σ c.vs) H' s' ∧ tn1 j s'.heap ∧ (∀ b ∈ fp1, H' b = none) ∧ W1 j m H' := fun {s' H'} I' nx => by
        obtain ⟨m', hm, w'⟩ := hNx1 H' nx
        have pin' : ∀ b ∈ fp1, ∀ o, s14.heap.get? b = some o → s'.heap.get? b = some o ∧ H' b = none := fun b hb o e =>
          let z := I'.pin (b, o) (List.mem_append_right _ (List.mem_append_right _ (mem_pinsAt hb e)))
          ⟨z.1, z.2.1⟩
        refine ⟨m', hm, j + 1, H', I'.unpinned.weak (by rw [← hw15, wipe_length]) (fun j v e => by rw [← hw15] at e; exact (wipe_some e).1), T1.keep _ _ _ st14 fun b hb o e => (pin' b hb o e).1, fun b hb => ?_, w'⟩
        obtain ⟨o, e, _⟩ := T1.obj _ _ st14 b hb
        exact (pin' b hb o e).2
      cases b1 with
      | false =>
        simp only [Bool.false_eq_true, if_false] at q16 ⊢
        exact fin1 I16 q16
      | true =>
        simp only [if_true] at q16 ⊢
        refine thnF (pe.run _ s16 σ15 H16 _ I16 q16) fun z s17 ⟨yv, H17, I17, r17, acc, hD17, hz17, nx⟩ => ?_
        exact app_ok (X := X.blk s0 H0 scope ce fp) I17 hD17 hz17 r17 fun s18 I18 => fin1 I18 nx
  exact st _ _ _ _ _ _ _ _ loop1 (T1.self X.A 0 _ _ _ st11 loop1)
theorem inn_more {i j : Nat} {tg iter iter1 : Expr} {ifs : List Expr} {c c1 : Cl} {r : List Cl} (hc : X.calm = true) (st : StartOk (.ListComp elt cs scp pos) i) (tn : ∀ it, TurnGo (.ListComp elt cs scp pos) i j tg iter iter1 ifs it (.ref D) ce) (hs : ∀ x, foldedSetIterable iter1 ce x = pure x) (hv : ∀ x ∈ c1.vs, x ∈ c.vs)
    (pi : PI (X.blk s0 H0 scope ce fp) tg iter c.wi) (pg : PG (X.blk s0 H0 scope ce fp) tg c.g) (pt : PTs (X.blk s0 H0 scope ce fp) ifs c.tt) (inn : InnOk X s0 H0 scope ce fp (.ListComp elt cs scp pos) j iter1 te D c1 r) : InnOk X s0 H0 scope ce fp (.ListComp elt cs scp pos) i iter te D c (c1 :: r) := by
  intro pins s σ H Nx Post E I h hP
  refine thnF (pi.run pins s σ H _ I h) fun xv s10 hx => thnF hx fun itv s11 h11 => ?_
  obtain ⟨it1, fp1, tn1, J1, H11, e1, I11, T1, st11, f11, W1, ⟨m1, w1⟩, turn1⟩ := h11
  subst e1
  have stat1 : ∀ {H' : Hp}, (∀ b ∈ fp1, H' b = none) → ∀ b ∈ fp1, FpOk (X.blk s0 H0 scope ce fp) pins H' b := fun hn b hb => ⟨hn b hb, (f11 b hb).2⟩
  have loop1 : codeAny (model X.prog X.w) X.A (.compLoop (.ListComp elt cs scp pos) i (.ref it1) (.ref D) ce) (fun r s' => match r with
      | .ok _ => Post s'
      | .error _ => False) s11 := by
    refine loop_go (tn _) hs (fun k s' => ∃ j H', Inv (X.blk s0 H0 scope ce fp) pins (wipe σ c.vs) H' s' ∧ tn1 j s'.heap ∧ (∀ b ∈ fp1, H' b = none) ∧ W1 j k H') ?_ m1 ⟨0, H11, I11.weak (wipe_length _ _) (fun j v e => (wipe_some e).1), st11, fun b hb => (f11 b hb).1, w1⟩
    rintro k s12 ⟨j, H12, I12, st12, n12, w12⟩
    rcases turn1 j k H12 w12 with ⟨stop1, nx1⟩ | ⟨go1, Nx1, hNx1, step1⟩
    · refine thnF (T1.done (X.blk s0 H0 scope ce fp) rfl rfl rfl hc j _ s12 (wipe σ c.vs) H12 (fun _ _ => False) I12 (stat1 n12) st12 stop1) fun r s13 ⟨hr, I13⟩ => ?_
      subst hr
      exact hP _ _ I13 nx1
    · refine thnF (T1.item (X.blk s0 H0 scope ce fp) rfl rfl rfl hc j _ s12 (wipe σ c.vs) H12 (fun _ _ => False) I12 (stat1 n12) st12 go1) fun r s13 ⟨u1, hr, h13⟩ => ?_
      subst hr
      refine thnF h13 fun _ s14 ⟨x1, H14, I14, r14, y14, st14, n14⟩ => ?_
      have I14' := I14.pinned (stat1 n14) (T1.obj _ _ st14)
      refine thnF (pg.run _ s14 (wipe σ c.vs) H14 x1 u1 _ I14' r14 (step1 x1 H14 y14)) fun _ s15 ⟨σ15, H15, I15, hw15, q15⟩ => ?_
      refine thnF (pt.run _ s15 σ15 H15 _ I15 q15) fun b1 s16 ⟨H16, I16, q16⟩ => ?_
      have fin1 : ∀ {s' : Shared} {H' : Hp} {σ' : L2.St}, Inv (X.blk s0 H0 scope ce fp) (pins ++ pinsAt fp1 s14.heap) σ' H' s' → (wipe σ c.vs).length = σ'.length → (∀ (j : Nat) v, (wipe σ c.vs)[j]? = some (some v) → σ'[j]? = some (some v)) → Nx1 H' → ∃ m, m < k ∧ ∃ j H', Inv (X.blk s0 H0 scope ce fp) pins (wipe σ c.vs) H' s' ∧ tn1 j s'.heap ∧ (∀ b ∈ fp1, H' b = none) ∧ W1 j m H' := fun {s' H' σ'} I' hl hk nx => by
        obtain ⟨m', hm, w'⟩ := hNx1 H' nx
        have pin' : ∀ b ∈ fp1, ∀ o, s14.heap.get? b = some o → s'.heap.get? b = some o ∧ H' b = none := fun b hb o e =>
          let z := I'.pin (b, o) (List.mem_append_right _ (List.mem_append_right _ (mem_pinsAt hb e)))
          ⟨z.1, z.2.1⟩
        refine ⟨m', hm, j + 1, H', I'.unpinned.weak hl hk, T1.keep _ _ _ st14 fun b hb o e => (pin' b hb o e).1, fun b hb => ?_, w'⟩
        obtain ⟨o, e, _⟩ := T1.obj _ _ st14 b hb
        exact (pin' b hb o e).2
      have hl15 : (wipe σ c.vs).length = σ15.length := by rw [← hw15, wipe_length]
      have hk15 : ∀ (j : Nat) v, (wipe σ c.vs)[j]? = some (some v) → σ15[j]? = some (some v) ∧ j ∉ c.vs := fun j v e => by
        rw [← hw15] at e
        exact wipe_some e
      cases b1 with
      | false =>
        simp only [Bool.false_eq_true, if_false] at q16 ⊢
        exact fin1 I16 hl15 (fun j v e => (hk15 j v e).1) q16
      | true =>
        simp only [if_true] at q16 ⊢
        refine inn _ s16 σ15 H16 Nx1 _ _ I16 q16 fun H' s' I' nx => ?_
        exact fin1 I' (hl15.trans (wipe_length σ15 c1.vs).symm) (fun j v e => by
          obtain ⟨e1, e2⟩ := hk15 j v e
          rw [wipe_out fun z => e2 (hv j z)]
          exact e1) nx
  exact st _ _ _ _ _ _ _ _ loop1 (T1.self X.A 0 _ _ _ st11 loop1)
end
section
variable {X : Cx}
/-- a comprehension whose first `for` goes on into others -/
theorem lcN_core {pins : List (Addr × Obj)} {s : Shared} {σ : L2.St} {H : Hp} {Q : VK} {elt tg iter iter1 : Expr} {ifs : List Expr} {cs : List Comprehension} {scope : Scope} {own : List (Str × Nat)} {pos pos' : Pos} {wi : TI} {g : TG} {tt : TT} {te : TE} {c1 : Cl} {r : List Cl} {use : Option (Value → Sem Unit)} {Qf : Value → Shared → Prop}
    (hc : X.calm = true) (hN : X.N.Nodup) (I : Inv X pins σ H s) (hi : PI X tg iter wi) (ok : BlkOk X.N X.env.scope scope own) (hv : ∀ i ∈ c1.vs, i ∈ own.map (·.2))
    (hg : ∀ (s : Shared) (H : Hp) (C : Addr) (cl : List (Str × Addr)) (fp : List Addr), PG (X.blk s H scope (compEnvC scope cl C X.env) fp) tg g) (ht : ∀ (s : Shared) (H : Hp) (C : Addr) (cl : List (Str × Addr)) (fp : List Addr), PTs (X.blk s H scope (compEnvC scope cl C X.env) fp) ifs tt)
    (tn : ∀ it acc env, TurnGo (.ListComp elt (⟨tg, iter, ifs, 0⟩ :: cs) scope pos) 0 1 tg iter iter1 ifs it acc env) (hs : ∀ x, foldedSetIterable iter X.env x = pure x) (hs1 : ∀ env x, foldedSetIterable iter1 env x = pure x)
    (hin : ∀ (s : Shared) (H : Hp) (C : Addr) (cl : List (Str × Addr)) (fp : List Addr) (D : Addr), InnOk X s H scope (compEnvC scope cl C X.env) fp (.ListComp elt (⟨tg, iter, ifs, 0⟩ :: cs) scope pos) 1 iter1 te D c1 r)
    (h : tLcN wi g tt (c1 :: r) te (own.map (·.2)) σ H Q)
    (hRR : ∀ D C s' m H', Inv X pins σ H' s' → Q (.ref D) H' → s'.heap.Ns C m → FpOk X pins H' C → compPost (model X.prog X.w) X.A X.xe use Qf (.ref D) C (.ok .next) s') :
    wpAny (model X.prog X.w) X.A (comprehension (.ListComp elt (⟨tg, iter, ifs, 0⟩ :: cs) scope pos) scope X.env pos' (newList []) false (eval iter X.env) use) Qf X.xe s := by
  have hfree : ∀ y ∈ scope.names, y.2 = .free → ∃ c, X.env.cells.lookup y.1 = some c := fun y hy e => by
    rcases ok.free y hy e with k | k
    · exact I.ok.has _ (.inl k)
    · exact I.ok.has _ (.inr k)
  refine wpAny_comprehension_free (use := use) rfl hs (closure_ok hfree) ok.kind (fun y hy e => by rw [ok.uniq y hy, e])
    (thn (hi.run pins s σ H _ I h) fun xv s1 hx => thn hx fun itv s2 h2 => ?_)
  obtain ⟨it, fp, tnn, J, H2, e, I2, T, st2, f2, q⟩ := h2
  subst e
  refine wpAny_newObj_type (newEnv_comp ?_) (by show 0 ≤ sizeLine; decide)
  generalize hD : s2.heap.objs.size = D
  have hDn : H2 D = none := I2.hok.fresh (Nat.le_of_eq hD)
  obtain ⟨W, ⟨m0, w0⟩, turn⟩ := q D hDn
  generalize hs3 : ({ s2 with heap := s2.heap.push { cls := .type "list", data := .seq ([] : List Value).toArray } } : Shared) = s3
  have I3 : Inv X pins σ (upd H2 D (.lst [])) s3 := by
    rw [← hs3]
    refine I2.laid (t' := s2.toks) (fun b o e => Heap.get?_push_of_some _ e) (Nat.le_of_eq hD) ⟨Nat.zero_le _, [], 0, .nil, ?_⟩
    rw [← hD]
    exact Heap.get?_push_size _ rfl
  have h3 : s3.heap = s2.heap.push { cls := .type "list", data := .seq ([] : List Value).toArray } := by rw [← hs3]
  have sz : ∀ b ∈ fp, b < s2.heap.objs.size := fun b hb => by
    obtain ⟨o, e, _⟩ := T.obj _ _ st2 b hb
    exact Heap.lt_size e
  have f3 : ∀ b ∈ fp, FpOk X pins (upd H2 D (.lst [])) b ∧ b < s3.heap.objs.size := fun b hb => by
    have hlt := sz b hb
    refine ⟨⟨?_, (f2 b hb).2⟩, by rw [h3, Heap.size_push]; exact Nat.lt_succ_of_lt hlt⟩
    rw [upd_ne (by rw [← hD]; exact Nat.ne_of_lt hlt)]
    exact (f2 b hb).1
  have st3 : tnn 0 s3.heap := T.keep _ _ _ st2 fun b _ o e => by rw [h3]; exact Heap.get?_push_of_some _ e
  have I4 := block_start I3 ok hN f3
  have pg := hg s3 (upd H2 D (.lst [])) s3.heap.objs.size (cellsFrom (s3.heap.objs.size + 1) scope.names (cloFrom X.env.cells scope.names [])) fp
  have pt := ht s3 (upd H2 D (.lst [])) s3.heap.objs.size (cellsFrom (s3.heap.objs.size + 1) scope.names (cloFrom X.env.cells scope.names [])) fp
  have pin := hin s3 (upd H2 D (.lst [])) s3.heap.objs.size (cellsFrom (s3.heap.objs.size + 1) scope.names (cloFrom X.env.cells scope.names [])) fp D
  show codeAny _ _ (.compStart (.ListComp elt (⟨tg, iter, ifs, 0⟩ :: cs) scope pos) 0 (.ref it) (.ref D) (compEnvC scope (cellsFrom (s3.heap.objs.size + 1) scope.names (cloFrom X.env.cells scope.names [])) s3.heap.objs.size X.env)) (compPost (model X.prog X.w) X.A X.xe use Qf (.ref D) s3.heap.objs.size) { s3 with heap := pushCells (s3.heap.push { cls := .type "dict", data := .dict #[] }) scope.names }
  have nfp : ∀ b ∈ fp, (upd H2 D (.lst [])) b = none := fun b hb => (f3 b hb).1.1
  generalize hce : compEnvC scope (cellsFrom (s3.heap.objs.size + 1) scope.names (cloFrom X.env.cells scope.names [])) s3.heap.objs.size X.env = ce at I4 pg pt pin ⊢
  have cL : ce.locals = s3.heap.objs.size := by subst hce; rfl
  generalize hH3 : upd H2 D (.lst []) = H3 at I3 I4 pg pt pin w0 nfp f3
  generalize hs4 : ({ s3 with heap := pushCells (s3.heap.push { cls := .type "dict", data := .dict #[] }) scope.names } : Shared) = s4 at I4 ⊢
  have st4 : tnn 0 s4.heap := T.keep _ _ _ st3 fun b _ o e => by rw [← hs4]; exact pushCells_keeps _ _ _ _ (Heap.get?_push_of_some _ e)
  have stat : ∀ {σ' : L2.St} {H' : Hp} {s' : Shared}, Inv (X.blk s3 H3 scope ce fp) [] σ' H' s' → (∀ b ∈ fp, H' b = none) → ∀ b ∈ fp, FpOk (X.blk s3 H3 scope ce fp) [] H' b := fun {σ' H' s'} I' hn b hb =>
    ⟨hn b hb, (I'.ok.exf b hb).1, I'.ok.exfs b hb, .inl hb, fun x c e => (I'.ok.exf b hb).2 x c e, fun p hp => absurd (show p ∈ ([] : List (Addr × Obj)) ++ [] from hp) (by simp)⟩
  have loop : codeAny (model X.prog X.w) X.A (.compLoop (.ListComp elt (⟨tg, iter, ifs, 0⟩ :: cs) scope pos) 0 (.ref it) (.ref D) ce) (compPost (model X.prog X.w) X.A X.xe use Qf (.ref D) s3.heap.objs.size) s4 := by
    refine loop_go (tn _ _ _) (hs1 ce) (fun n s' => ∃ i H', Inv (X.blk s3 H3 scope ce fp) [] (wipe σ (own.map (·.2))) H' s' ∧ tnn i s'.heap ∧ (∀ b ∈ fp, H' b = none) ∧ W i n H') ?_ m0 ⟨0, H3, I4, st4, nfp, w0⟩
    rintro n s5 ⟨i, H5, I5, st5, n5, w5⟩
    rcases turn i n H5 w5 with ⟨stop, qq⟩ | ⟨go, Nx, hNx, step⟩
    · have td := T.done (X.blk s3 H3 scope ce fp) rfl rfl rfl hc i [] s5 _ H5 (fun _ _ => False) I5 (stat I5 n5) st5 stop
      refine thnF td fun r s6 ⟨hr, I6⟩ => ?_
      subst hr
      have I7 : Inv X pins σ H5 s6 := I3.call' (ch := fp) I6.os I6.base I6.hok I6.bare fun b hb => ⟨(f3 b hb).1.2.2.2.1, (f3 b hb).1.2.1, (f3 b hb).1.2.2.2.2.1, (f3 b hb).1.2.2.2.2.2⟩
      have nC : H5 s3.heap.objs.size = none := by
        have z : H5 ce.locals = none := I6.free
        rw [cL] at z
        exact z
      obtain ⟨m, hn, _⟩ := I6.loc
      have hn : s6.heap.Ns ce.locals m := hn
      rw [cL] at hn
      exact hRR D s3.heap.objs.size s6 m H5 I7 qq hn (I3.fpOk (Nat.le_refl _) nC)
    · have ti := T.item (X.blk s3 H3 scope ce fp) rfl rfl rfl hc i [] s5 _ H5 (fun _ _ => False) I5 (stat I5 n5) st5 go
      refine thnF ti fun r s6 ⟨u, hr, h6⟩ => ?_
      subst hr
      refine thnF h6 fun _ s7 ⟨x, H7, I7, r7, y7, st7, n7⟩ => ?_
      have I7' := I7.pinned (stat I7 n7) (T.obj _ _ st7)
      refine thnF (pg.run _ s7 _ H7 x u _ I7' r7 (step x H7 y7)) fun _ s8 ⟨σ8, H8, I8, hw8, q8⟩ => ?_
      refine thnF (pt.run _ s8 σ8 H8 _ I8 q8) fun b s9 ⟨H9, I9, q9⟩ => ?_
      have fin : ∀ {σ9 : L2.St} {s' : Shared} {H' : Hp}, Inv (X.blk s3 H3 scope ce fp) ([] ++ pinsAt fp s7.heap) σ9 H' s' → (wipe σ (own.map (·.2))).length = σ9.length → (∀ (j : Nat) v, (wipe σ (own.map (·.2)))[j]? = some (some v) → σ9[j]? = some (some v)) → Nx H' →
          ∃ m, m < n ∧ ∃ i H', Inv (X.blk s3 H3 scope ce fp) [] (wipe σ (own.map (·.2))) H' s' ∧ tnn i s'.heap ∧ (∀ b ∈ fp, H' b = none) ∧ W i m H' := fun {σ9 s' H'} I' hl hk nx => by
        obtain ⟨m', hm, w'⟩ := hNx H' nx
        have pin' : ∀ b ∈ fp, ∀ o, s7.heap.get? b = some o → s'.heap.get? b = some o ∧ H' b = none := fun b hb o e =>
          let z := I'.pin (b, o) (List.mem_append_right _ (List.mem_append_right _ (mem_pinsAt hb e)))
          ⟨z.1, z.2.1⟩
        refine ⟨m', hm, i + 1, H', (I'.unpinned (pins := [])).weak hl hk, T.keep _ _ _ st7 fun b hb o e => (pin' b hb o e).1, fun b hb => ?_, w'⟩
        obtain ⟨o, e, _⟩ := T.obj _ _ st7 b hb
        exact (pin' b hb o e).2
      have hl8 : (wipe σ (own.map (·.2))).length = σ8.length := by rw [← hw8, wipe_length]
      have hk8 : ∀ (j : Nat) v, (wipe σ (own.map (·.2)))[j]? = some (some v) → σ8[j]? = some (some v) ∧ j ∉ own.map (·.2) := fun j v e => by
        rw [← hw8] at e
        exact wipe_some e
      cases b with
      | false =>
        simp only [Bool.false_eq_true, if_false] at q9 ⊢
        exact fin I9 hl8 (fun j v e => (hk8 j v e).1) q9
      | true =>
        simp only [if_true] at q9 ⊢
        refine pin _ s9 σ8 H9 Nx _ _ I9 q9 fun H' s' I' nx => ?_
        exact fin I' (hl8.trans (wipe_length σ8 c1.vs).symm) (fun j v e => by
          obtain ⟨e1, e2⟩ := hk8 j v e
          rw [wipe_out fun z => e2 (hv j z)]
          exact e1) nx
  exact codeAny_compStart_list loop (T.self X.A 0 _ _ _ st4 loop)
/-- [elt for .. for .. for ..], as a value -/
theorem pe_lc3 {elt t0 i0 t1 i1 t2 i2 : Expr} {ifs0 ifs1 ifs2 : List Expr} {scope : Scope} {own : List (Str × Nat)} {vs1 vs2 : List Nat} {pos : Pos} {wi wi1 wi2 : TI} {g g1 g2 : TG} {tt tt1 tt2 : TT} {te : TE} (hc : X.calm = true) (hN : X.N.Nodup) (hi : PI X t0 i0 wi) (ok : BlkOk X.N X.env.scope scope own) (hv : ∀ i ∈ vs1, i ∈ own.map (·.2)) (hv2 : ∀ i ∈ vs2, i ∈ vs1)
    (hg : ∀ (s : Shared) (H : Hp) (C : Addr) (cl : List (Str × Addr)) (fp : List Addr), PG (X.blk s H scope (compEnvC scope cl C X.env) fp) t0 g) (ht : ∀ (s : Shared) (H : Hp) (C : Addr) (cl : List (Str × Addr)) (fp : List Addr), PTs (X.blk s H scope (compEnvC scope cl C X.env) fp) ifs0 tt)
    (hi1 : ∀ (s : Shared) (H : Hp) (C : Addr) (cl : List (Str × Addr)) (fp : List Addr), PI (X.blk s H scope (compEnvC scope cl C X.env) fp) t1 i1 wi1)
    (hg1 : ∀ (s : Shared) (H : Hp) (C : Addr) (cl : List (Str × Addr)) (fp : List Addr), PG (X.blk s H scope (compEnvC scope cl C X.env) fp) t1 g1) (ht1 : ∀ (s : Shared) (H : Hp) (C : Addr) (cl : List (Str × Addr)) (fp : List Addr), PTs (X.blk s H scope (compEnvC scope cl C X.env) fp) ifs1 tt1)
    (hi2 : ∀ (s : Shared) (H : Hp) (C : Addr) (cl : List (Str × Addr)) (fp : List Addr), PI (X.blk s H scope (compEnvC scope cl C X.env) fp) t2 i2 wi2)
    (hg2 : ∀ (s : Shared) (H : Hp) (C : Addr) (cl : List (Str × Addr)) (fp : List Addr), PG (X.blk s H scope (compEnvC scope cl C X.env) fp) t2 g2) (ht2 : ∀ (s : Shared) (H : Hp) (C : Addr) (cl : List (Str × Addr)) (fp : List Addr), PTs (X.blk s H scope (compEnvC scope cl C X.env) fp) ifs2 tt2)
    (he : ∀ (s : Shared) (H : Hp) (C : Addr) (cl : List (Str × Addr)) (fp : List Addr), PE (X.blk s H scope (compEnvC scope cl C X.env) fp) elt te) (hs : ∀ x, foldedSetIterable i0 X.env x = pure x := by intro _; rfl) (hs1 : ∀ env x, foldedSetIterable i1 env x = pure x := by intro _ _; rfl) (hs2 : ∀ env x, foldedSetIterable i2 env x = pure x := by intro _ _; rfl) :
    PE X (.ListComp elt [⟨t0, i0, ifs0, 0⟩, ⟨t1, i1, ifs1, 0⟩, ⟨t2, i2, ifs2, 0⟩] scope pos) (tLcN wi g tt [⟨wi1, g1, tt1, vs1⟩, ⟨wi2, g2, tt2, vs2⟩] te (own.map (·.2))) := by
  refine ⟨fun pins s σ H Q I h => ?_⟩
  rw [eval_ListComp]
  refine lcN_core (c1 := ⟨wi1, g1, tt1, vs1⟩) (r := [⟨wi2, g2, tt2, vs2⟩]) hc hN I hi ok hv hg ht (fun _ _ _ => turn3_0) hs hs1 (fun s H C cl fp D => ?_) h fun D C s' m H' I' q hn f => ⟨m, hn, fun h'' sb => ?_⟩
  · exact inn_more (c := ⟨wi1, g1, tt1, vs1⟩) (c1 := ⟨wi2, g2, tt2, vs2⟩) hc start3_1 (fun _ => turn3_1) (hs2 _) hv2 (hi1 s H C cl fp) (hg1 s H C cl fp) (ht1 s H C cl fp) (inn_last hc start3_2 (fun _ => turn3_2) (hi2 s H C cl fp) (hg2 s H C cl fp) (ht2 s H C cl fp) (he s H C cl fp))
  · obtain ⟨f0, f1, f2, f3, f4, f5⟩ := f
    exact ⟨.ref D, H', I'.turned (t' := s'.toks) (fun b o hb e => (sb.2 b hb).trans e) f0 f1 f3 f4 f5, rfl, q⟩
end
section
variable {J : It} {n : Nat} {G : Hp → Prop} {Y : Nat → Hp → V → Hp → Prop}
theorem rd_lcN {wi : TI} {g : TG} {tt : TT} {cs : List Cl} {te : TE} {vs : List Nat} {σ : L2.St} {H : Hp} {Q : VK} (h : wi σ H fun J H1 => ∀ D, H1 D = none → ∃ W : Nat → Nat → Hp → Prop, (∃ m, W 0 m (upd H1 D (.lst []))) ∧ ∀ i m H, W i m H →
  (J.stop i H ∧ Q (.ref D) H) ∨ (J.go i H ∧ ∃ Nx : Hp → Prop, (∀ H', Nx H' → ∃ m', m' < m ∧ W (i + 1) m' H') ∧ ∀ x H', J.yld i H x H' → g x (wipe σ vs) H' fun σ2 H2 => wipe σ2 vs = wipe σ vs ∧ tt σ2 H2 fun b H3 =>
    if b = true then tInn te D cs σ2 H3 Nx else Nx H3)) : tLcN wi g tt cs te vs σ H Q := h
theorem rd_inn {wi : TI} {g : TG} {tt : TT} {vs : List Nat} {r : List Cl} {te : TE} {D : Addr} {σ : L2.St} {H : Hp} {Nx : Hp → Prop} (h : wi σ H fun J H4 => ∃ W : Nat → Nat → Hp → Prop, (∃ m, W 0 m H4) ∧ ∀ j k H, W j k H →
      (J.stop j H ∧ Nx H) ∨ (J.go j H ∧ ∃ Nx1 : Hp → Prop, (∀ H', Nx1 H' → ∃ k', k' < k ∧ W (j + 1) k' H') ∧ ∀ x H', J.yld j H x H' → g x (wipe σ vs) H' fun σ3 H5 => wipe σ3 vs = wipe σ vs ∧ tt σ3 H5 fun b H6 =>
        if b = true then tInn te D r σ3 H6 Nx1 else Nx1 H6)) : tInn te D (⟨wi, g, tt, vs⟩ :: r) σ H Nx := h
theorem rd_inn0 {te : TE} {D : Addr} {σ : L2.St} {H : Hp} {Nx : Hp → Prop} (h : te σ H fun y H7 => ∃ acc, H7 D = some (.lst acc) ∧ acc.length < sizeLine ∧ Nx (upd H7 D (.lst (acc ++ [y])))) : tInn te D [] σ H Nx := h
theorem rd_irng2 {ta : TA} {σ : L2.St} {H : Hp} {R : It → Hp → Prop} (h : ta σ H fun vs H1 => ∃ i j : Int, vs = [.int i, .int j] ∧ (-(2 ^ 62) ≤ i ∧ i < 2 ^ 62 ∧ -(2 ^ 62) ≤ j ∧ j < 2 ^ 62) ∧ R (Itr i (j - i).toNat) H1) : iRng2 ta σ H R := h
/-- a `for` of a comprehension of several, over a walk -/
theorem inn_it (w : Walk J n G Y) {g : TG} {tt : TT} {vs : List Nat} {σ : L2.St} {H1 : Hp} {B : L2.St → Hp → (Hp → Prop) → Prop} {Nx : Hp → Prop} (Pv : Nat → Hp → Prop) (h0 : Pv 0 H1) (hG : ∀ i H, i ≤ n → Pv i H → G H)
    (hs : ∀ i x H H', i < n → Pv i H → Y i H x H' → g x (wipe σ vs) H' fun σ3 H5 => wipe σ3 vs = wipe σ vs ∧ tt σ3 H5 fun b H6 => if b = true then B σ3 H6 (Pv (i + 1)) else Pv (i + 1) H6) (hd : ∀ H, Pv n H → Nx H) :
    ∃ W : Nat → Nat → Hp → Prop, (∃ m, W 0 m H1) ∧ ∀ j k H, W j k H →
      (J.stop j H ∧ Nx H) ∨ (J.go j H ∧ ∃ Nx1 : Hp → Prop, (∀ H', Nx1 H' → ∃ k', k' < k ∧ W (j + 1) k' H') ∧ ∀ x H', J.yld j H x H' → g x (wipe σ vs) H' fun σ3 H5 => wipe σ3 vs = wipe σ vs ∧ tt σ3 H5 fun b H6 =>
        if b = true then B σ3 H6 Nx1 else Nx1 H6) := by
  refine ⟨fun i m H => m = n - i ∧ i ≤ n ∧ Pv i H, ⟨n, by simp, Nat.zero_le _, h0⟩, ?_⟩
  rintro i m H ⟨rfl, hi, p⟩
  have q := hG i H hi p
  by_cases hlt : i < n
  · exact .inr ⟨w.goes i H hlt q, Pv (i + 1), fun H' p' => ⟨n - (i + 1), by omega, rfl, hlt, p'⟩, fun x H' y => hs i x H H' hlt p (w.yields i H x H' hlt q y)⟩
  · have e : i = n := by omega
    subst e
    exact .inl ⟨w.stops H q, hd H p⟩
end
end Rg

namespace Rg
open PySem PySem.Spec L2
def top (i : Nat) : Stmt := PySem.Challenge.pw_ringgates_k46_least_openings.main.body.getD i (.Pass ⟨0, 0, 0, 0⟩)
abbrev s_RingError__init : Stmt := inClass (top 1) 0
theorem sc_RingError__init : FnScope ["self", "what"] ["self", "what"] (defScope s_RingError__init) := ⟨rfl, rfl, rfl, by decide +kernel, rfl, by decide +kernel, by decide +kernel⟩
abbrev s_NoRing__init : Stmt := inClass (top 2) 0
theorem sc_NoRing__init : FnScope ["self", "what"] ["self", "what"] (defScope s_NoRing__init) := ⟨rfl, rfl, rfl, by decide +kernel, rfl, by decide +kernel, by decide +kernel⟩
abbrev s_is_whole : Stmt := top 5
theorem sc_is_whole : FnScope ["number"] ["number"] (defScope s_is_whole) := ⟨rfl, rfl, rfl, by decide +kernel, rfl, by decide +kernel, by decide +kernel⟩
abbrev s_is_below : Stmt := top 6
theorem sc_is_below : FnScope ["number", "bound"] ["number", "bound"] (defScope s_is_below) := ⟨rfl, rfl, rfl, by decide +kernel, rfl, by decide +kernel, by decide +kernel⟩
abbrev s_is_ring : Stmt := top 7
theorem sc_is_ring : FnScope ["number"] ["number"] (defScope s_is_ring) := ⟨rfl, rfl, rfl, by decide +kernel, rfl, by decide +kernel, by decide +kernel⟩
abbrev s_may_read : Stmt := top 9
theorem sc_may_read : FnScope ["segment", "ring", "brackets", "rights"] ["segment", "ring"] (defScope s_may_read) := ⟨rfl, rfl, rfl, by decide +kernel, rfl, by decide +kernel, by decide +kernel⟩
abbrev s_may_write : Stmt := top 10
theorem sc_may_write : FnScope ["segment", "ring", "brackets", "rights"] ["segment", "ring"] (defScope s_may_write) := ⟨rfl, rfl, rfl, by decide +kernel, rfl, by decide +kernel, by decide +kernel⟩
abbrev s_may_run : Stmt := top 11
theorem sc_may_run : FnScope ["segment", "ring", "brackets", "rights"] ["segment", "ring"] (defScope s_may_run) := ⟨rfl, rfl, rfl, by decide +kernel, rfl, by decide +kernel, by decide +kernel⟩
abbrev s_may_call : Stmt := top 12
theorem sc_may_call : FnScope ["segment", "ring", "brackets", "rights"] ["segment", "ring"] (defScope s_may_call) := ⟨rfl, rfl, rfl, by decide +kernel, rfl, by decide +kernel, by decide +kernel⟩
abbrev s_ways_in : Stmt := top 13
theorem sc_ways_in : FnScope ["segment", "ring"] ["segment", "ring"] (defScope s_ways_in) := ⟨rfl, rfl, rfl, by decide +kernel, rfl, by decide +kernel, by decide +kernel⟩
abbrev s_brackets_for : Stmt := top 15
theorem sc_brackets_for : FnScope ["reads", "writes", "runs", "calls", "wished", "rights", "fitting", "brackets"] ["reads", "writes", "runs", "calls"] (defScope s_brackets_for) := ⟨rfl, rfl, rfl, by decide +kernel, rfl, by decide +kernel, by decide +kernel⟩
abbrev s_opening : Stmt := top 16
theorem sc_opening : FnScope ["reads", "writes", "runs", "calls", "wished", "rights", "open_enough", "brackets", "given", "many"] ["reads", "writes", "runs", "calls"] (defScope s_opening) := ⟨rfl, rfl, rfl, by decide +kernel, rfl, by decide +kernel, by decide +kernel⟩
abbrev s_refuse_no_ring : Stmt := top 17
theorem sc_refuse_no_ring : FnScope ["reads", "writes", "runs", "calls", "rings", "ring"] ["reads", "writes", "runs", "calls"] (defScope s_refuse_no_ring) := ⟨rfl, rfl, rfl, by decide +kernel, rfl, by decide +kernel, by decide +kernel⟩
abbrev s_wished_ways : Stmt := top 18
theorem sc_wished_ways : FnScope ["reads", "writes", "runs", "calls", "ring"] ["reads", "writes", "runs", "calls"] (defScope s_wished_ways) := ⟨rfl, rfl, rfl, by decide +kernel, rfl, by decide +kernel, by decide +kernel⟩
abbrev s_given_ways : Stmt := top 19
theorem sc_given_ways : FnScope ["brackets", "rights", "segment", "ring"] ["brackets", "rights"] (defScope s_given_ways) := ⟨rfl, rfl, rfl, by decide +kernel, rfl, by decide +kernel, by decide +kernel⟩
abbrev s_rights_for : Stmt := top 20
theorem sc_rights_for : FnScope ["reads", "writes", "runs", "calls"] ["reads", "writes", "runs", "calls"] (defScope s_rights_for) := ⟨rfl, rfl, rfl, by decide +kernel, rfl, by decide +kernel, by decide +kernel⟩
abbrev s_all_brackets : Stmt := top 21
theorem sc_all_brackets : FnScope ["r1", "r2", "r3"] [] (defScope s_all_brackets) := ⟨rfl, rfl, rfl, by decide +kernel, rfl, by decide +kernel, by decide +kernel⟩
abbrev s_lets_all : Stmt := top 22
theorem sc_lets_all : FnScope ["given", "wished", "ways", "wishes", "may", "wish"] ["given", "wished"] (defScope s_lets_all) := ⟨rfl, rfl, rfl, by decide +kernel, rfl, by decide +kernel, by decide +kernel⟩
abbrev s_how_many : Stmt := top 23
theorem sc_how_many : FnScope ["given", "ways"] ["given"] (defScope s_how_many) := ⟨rfl, rfl, rfl, by decide +kernel, rfl, by decide +kernel, by decide +kernel⟩
abbrev s_law_bag : Stmt := top 25
theorem sc_law_bag : FnScope ["script", "fold", "great", "cell"] ["script"] (defScope s_law_bag) := ⟨rfl, rfl, rfl, by decide +kernel, rfl, by decide +kernel, by decide +kernel⟩
abbrev s_law_draw : Stmt := top 26
theorem sc_law_draw : FnScope ["bag", "many", "drawn", "turn", "mixed"] ["bag", "many"] (defScope s_law_draw) := ⟨rfl, rfl, rfl, by decide +kernel, rfl, by decide +kernel, by decide +kernel⟩
abbrev s_law_may : Stmt := top 27
theorem sc_law_may : FnScope ["brackets", "rights", "ring", "low", "mid", "high", "looks", "puts", "goes"] ["brackets", "rights", "ring"] (defScope s_law_may) := ⟨rfl, rfl, rfl, by decide +kernel, rfl, by decide +kernel, by decide +kernel⟩
abbrev s_law_choices : Stmt := top 28
theorem sc_law_choices : FnScope ["found", "low", "mid", "high", "rights"] [] (defScope s_law_choices) := ⟨rfl, rfl, rfl, by decide +kernel, rfl, by decide +kernel, by decide +kernel⟩
abbrev s_law_extra : Stmt := top 29
theorem sc_law_extra : FnScope ["lists", "brackets", "rights", "beyond", "lacks", "ring", "may", "k"] ["lists", "brackets", "rights"] (defScope s_law_extra) := ⟨rfl, rfl, rfl, by decide +kernel, rfl, by decide +kernel, by decide +kernel⟩
abbrev s_law_lists : Stmt := top 30
theorem sc_law_lists : FnScope ["bag", "shape", "low", "more", "further", "brackets", "rights", "lists", "ring", "may", "k", "turn", "line", "one"] ["bag"] (defScope s_law_lists) := ⟨rfl, rfl, rfl, by decide +kernel, rfl, by decide +kernel, by decide +kernel⟩
abbrev s_law : Stmt := top 31
theorem sc_law : FnScope ["script", "bag", "lists", "due", "fewest", "brackets", "rights", "beyond", "lacks", "handed", "found", "just", "one"] ["script"] (defScope s_law) := ⟨rfl, rfl, rfl, by decide +kernel, rfl, by decide +kernel, by decide +kernel⟩
end Rg

namespace Rg
open PySem PySem.Spec L2
local macro_rules | `(tactic| walk_at "rd1") => `(tactic| first
  | with_reducible refine rd_seq ?_
  | with_reducible refine rd_asg ?_
  | ((with_reducible show tVar _ _ _ _); refine rd_var rfl ?_)
  | with_reducible refine rd_c ?_
  | with_reducible refine rd_op ?_
  | with_reducible refine rd_I0 ?_
  | with_reducible refine rd_name ?_
  | with_reducible refine rd_ret ?_
  | with_reducible refine rd_ifs ?_
  | with_reducible refine rd_test ?_
  | with_reducible refine rd_tB ?_
  | with_reducible refine rd_bl ?_
  | with_reducible refine rd_drop ?_
  | with_reducible refine rd_nil ?_
  | with_reducible refine rd_cons ?_
  | with_reducible refine rd_call ?_
  | with_reducible refine rd_cb ?_
  | with_reducible refine rd_tup ?_
  | with_reducible refine rd_lst ?_
  | with_reducible refine rd_and ?_
  | with_reducible refine rd_or ?_
  | with_reducible refine rd_not ?_
  | with_reducible refine rd_andV ?_
  | with_reducible refine rd_orV ?_
  | with_reducible refine rd_notV ?_
  | with_reducible refine rd_chain ?_
  | with_reducible refine rd_un ?_
  | with_reducible refine rd_isN ?_
  | with_reducible refine rd_bm ?_
  | with_reducible refine rd_bm0 ?_
  | with_reducible refine rd_gsub ?_
  | with_reducible refine rd_sl ?_
  | with_reducible refine rd_gt ?_
  | with_reducible refine rd_yes ?_
  | with_reducible refine rd_gcons ?_
  | with_reducible refine rd_gnil ?_
  | with_reducible refine rd_part ?_
  | with_reducible refine rd_nopart ?_
  | ((with_reducible show gTup _ _ _ _ _ _ _); refine rd_gtup (by first | assumption | exact upd_same) rfl ?_)
  | ((with_reducible show gLst _ _ _ _ _ _ _); refine rd_glst (by first | assumption | exact upd_same) rfl ?_)
  | ((with_reducible show rIsi _ _ _ _); first | refine rd_isi (b := true) (.ty _) (.base (by first | exact .int _ | exact .str _ | exact .bl _ | exact .non | exact .tup (by assumption) | exact .lst (by assumption))) (kit_ty (by decide +kernel)) ?_ | refine rd_isi (b := false) (.ty _) (.base (by first | exact .int _ | exact .str _ | exact .bl _ | exact .non | exact .tup (by assumption) | exact .lst (by assumption))) (kit_ty (by decide +kernel)) ?_)
  | with_reducible refine rd_fld ?_
  | with_reducible refine rd_sfld ?_
  | with_reducible refine rd_meth ?_
  | with_reducible refine rd_make ?_
  | with_reducible refine rd_makeK ?_
  | with_reducible refine rd_U ?_
  | with_reducible refine rd_makeKS ?_
  | with_reducible refine rd_callN ?_
  | with_reducible refine rd_rs ?_
  | with_reducible refine rd_rf ?_
  | with_reducible refine rd_star ?_
  | with_reducible refine rd_callS ?_
  | with_reducible refine rd_for ?_
  | with_reducible refine rd_lc ?_
  | with_reducible refine rd_ilist ?_
  | with_reducible refine rd_itup ?_
  | with_reducible refine rd_irng ?_
  | with_reducible refine rd_izipS ?_
  | with_reducible refine rd_ienum ?_
  | with_reducible refine rd_ienT ?_
  | with_reducible refine rd_next ?_
  | with_reducible refine rd_eq rfl ?_
  | with_reducible refine rd_ne rfl ?_
  | with_reducible refine iteT ?_
  | with_reducible refine iteF ?_
  | with_reducible refine rd_ifnT ?_
  | with_reducible refine rd_ifnF ?_
  | ((with_reducible show rI (fun _ j => (0 : Int) < j) _ _ _ _ _); refine rd_mod (by omega) ?_)
  | with_reducible refine rd_new rfl ?_
  | ((with_reducible show rIxL _ _ (V.int 0) _ _); refine rd_ixL0 (by first | assumption | exact upd_same) ?_)
  | ((with_reducible show rIxL _ _ _ _ _); refine rd_ixL (by first | assumption | exact upd_same) rfl ?_)
  | ((with_reducible show rSetL _ _ _ _ _); refine rd_setL (by first | assumption | exact upd_same) rfl ?_)
  | ((with_reducible show rI CMul _ _ _ _ _); refine rd_mul (by first | exact Or.inl ⟨by omega, by omega⟩ | exact Or.inr ⟨by omega, by omega⟩) ?_)
  | ((with_reducible show tyV _ "list" _ _ ∧ _); refine rd_tyL (by first | assumption | exact upd_same) ?_)
  | ((with_reducible show rIxT _ _ (V.int 0) _ _); refine rd_ixT0 (by first | assumption | exact upd_same) ?_)
  | ((with_reducible show rIxT _ _ _ _ _); refine rd_ixT (by first | assumption | exact upd_same) rfl ?_))
local macro_rules | `(tactic| walk_at "rdn1") => `(tactic| first
  | with_reducible refine rd_seq ?_
  | with_reducible refine rd_asg ?_
  | ((with_reducible show tVar _ _ _ _); refine rd_var rfl ?_)
  | with_reducible refine rd_c ?_
  | with_reducible refine rd_op ?_
  | with_reducible refine rd_I0 ?_
  | with_reducible refine rd_name ?_
  | with_reducible refine rd_ret ?_
  | with_reducible refine rd_ifs ?_
  | with_reducible refine rd_test ?_
  | with_reducible refine rd_tB ?_
  | with_reducible refine rd_bl ?_
  | with_reducible refine rd_drop ?_
  | with_reducible refine rd_nil ?_
  | with_reducible refine rd_cons ?_
  | with_reducible refine rd_call ?_
  | with_reducible refine rd_cb ?_
  | with_reducible refine rd_tup ?_
  | with_reducible refine rd_lst ?_
  | with_reducible refine rd_and ?_
  | with_reducible refine rd_or ?_
  | with_reducible refine rd_not ?_
  | with_reducible refine rd_notV ?_
  | with_reducible refine rd_chain ?_
  | with_reducible refine rd_un ?_
  | with_reducible refine rd_isN ?_
  | with_reducible refine rd_bm ?_
  | with_reducible refine rd_bm0 ?_
  | with_reducible refine rd_gsub ?_
  | with_reducible refine rd_sl ?_
  | with_reducible refine rd_gt ?_
  | with_reducible refine rd_yes ?_
  | with_reducible refine rd_gcons ?_
  | with_reducible refine rd_gnil ?_
  | with_reducible refine rd_part ?_
  | with_reducible refine rd_nopart ?_
  | ((with_reducible show gTup _ _ _ _ _ _ _); refine rd_gtup (by first | assumption | exact upd_same) rfl ?_)
  | ((with_reducible show gLst _ _ _ _ _ _ _); refine rd_glst (by first | assumption | exact upd_same) rfl ?_)
  | ((with_reducible show rIsi _ _ _ _); first | refine rd_isi (b := true) (.ty _) (.base (by first | exact .int _ | exact .str _ | exact .bl _ | exact .non | exact .tup (by assumption) | exact .lst (by assumption))) (kit_ty (by decide +kernel)) ?_ | refine rd_isi (b := false) (.ty _) (.base (by first | exact .int _ | exact .str _ | exact .bl _ | exact .non | exact .tup (by assumption) | exact .lst (by assumption))) (kit_ty (by decide +kernel)) ?_)
  | with_reducible refine rd_fld ?_
  | with_reducible refine rd_sfld ?_
  | with_reducible refine rd_meth ?_
  | with_reducible refine rd_make ?_
  | with_reducible refine rd_makeK ?_
  | with_reducible refine rd_U ?_
  | with_reducible refine rd_makeKS ?_
  | with_reducible refine rd_callN ?_
  | with_reducible refine rd_rs ?_
  | with_reducible refine rd_rf ?_
  | with_reducible refine rd_star ?_
  | with_reducible refine rd_callS ?_
  | with_reducible refine rd_for ?_
  | with_reducible refine rd_lc ?_
  | with_reducible refine rd_ilist ?_
  | with_reducible refine rd_itup ?_
  | with_reducible refine rd_irng ?_
  | with_reducible refine rd_izipS ?_
  | with_reducible refine rd_ienum ?_
  | with_reducible refine rd_ienT ?_
  | with_reducible refine rd_next ?_
  | with_reducible refine rd_eq rfl ?_
  | with_reducible refine rd_ne rfl ?_
  | with_reducible refine iteT ?_
  | with_reducible refine iteF ?_
  | with_reducible refine rd_ifnT ?_
  | with_reducible refine rd_ifnF ?_
  | ((with_reducible show rI (fun _ j => (0 : Int) < j) _ _ _ _ _); refine rd_mod (by omega) ?_)
  | with_reducible refine rd_new rfl ?_
  | ((with_reducible show rIxL _ _ (V.int 0) _ _); refine rd_ixL0 (by first | assumption | exact upd_same) ?_)
  | ((with_reducible show rIxL _ _ _ _ _); refine rd_ixL (by first | assumption | exact upd_same) rfl ?_)
  | ((with_reducible show rSetL _ _ _ _ _); refine rd_setL (by first | assumption | exact upd_same) rfl ?_)
  | ((with_reducible show rI CMul _ _ _ _ _); refine rd_mul (by first | exact Or.inl ⟨by omega, by omega⟩ | exact Or.inr ⟨by omega, by omega⟩) ?_)
  | ((with_reducible show tyV _ "list" _ _ ∧ _); refine rd_tyL (by first | assumption | exact upd_same) ?_)
  | ((with_reducible show rIxT _ _ (V.int 0) _ _); refine rd_ixT0 (by first | assumption | exact upd_same) ?_)
  | ((with_reducible show rIxT _ _ _ _ _); refine rd_ixT (by first | assumption | exact upd_same) rfl ?_))
local macro_rules | `(tactic| walk_at "rd") => `(tactic| (repeat (first | walk_at "rd1" | dsimp only)))
local macro_rules | `(tactic| walk_at "rds") => `(tactic| (dsimp only [cxOf, Cx.nox, Cx.wish, Cx.blk, L2.start]; walk_at "rd"))
local macro_rules | `(tactic| walk_at "rdn") => `(tactic| (repeat (first | walk_at "rdn1" | dsimp only)))
section
variable {P : Program} {w : World} {K : PySem.W.Frag} {mg : Str → Option Value} {base : Heap}

def spWhole : Sp := fun vs H Q _ => ∃ i : Int, vs = [.int i] ∧ Q (.bl true) H
theorem ok_whole {f : Addr} {fd : FuncData} (B : BT mg) (F : Fun K "is_whole" "is_whole" s_is_whole f fd) (hm : mg "is_whole" = some (.ref f)) : Cal P w K mg base "is_whole" 1 ["number"] spWhole := by
  refine ⟨f, fd, hm, F.kp, F.binds (ps := ["number"]) fun _ _ _ _ _ _ us hl => match us, hl with | [_], _ => rfl, ?_⟩
  refine F.ok sc_is_whole (fun vs H Q E h => ?_) (fun cdv A outer s H vs Q E hr h => ?_)
  · obtain ⟨i, rfl, _⟩ := h
    rfl
  · obtain ⟨i, rfl, k⟩ := h
    refine ⟨_, (pss_one (ps_ret (pe_and (pe_callB (r := rIsi K) call_isi rfl B.g_isinstance (by decide +kernel) (pa_cons (pv 0) (pa_cons (pe_bltn (v := .ty "int") rfl B.g_int (by decide +kernel) rfl) pa_nil))) (pe_one (pe_not (pe_callB (r := rIsi K) call_isi rfl B.g_isinstance (by decide +kernel) (pa_cons (pv 0) (pa_cons (pe_bltn (v := .ty "bool") rfl B.g_bool (by decide +kernel) rfl) pa_nil)))))))), ?_⟩
    walk_at "rds"
    exact k
def spBelow : Sp := fun vs H Q _ => ∃ i b : Int, vs = [.int i, .int b] ∧ Q (.bl (below i b)) H
theorem ok_below {f : Addr} {fd : FuncData} (B : BT mg) (F : Fun K "is_below" "is_below" s_is_below f fd) (hm : mg "is_below" = some (.ref f)) (C_is_whole : Cal P w K mg base "is_whole" 1 ["number"] spWhole) : Cal P w K mg base "is_below" 2 ["number", "bound"] spBelow := by
  refine ⟨f, fd, hm, F.kp, F.binds (ps := ["number", "bound"]) fun _ _ _ _ _ _ us hl => match us, hl with | [_, _], _ => rfl, ?_⟩
  refine F.ok sc_is_below (fun vs H Q E h => ?_) (fun cdv A outer s H vs Q E hr h => ?_)
  · obtain ⟨i, b, rfl, _⟩ := h
    rfl
  · obtain ⟨i, b, rfl, k⟩ := h
    refine ⟨_, (pss_one (ps_ret (pe_and (pe_cal C_is_whole (hr.mono (by omega)) rfl (pa_cons (pv 0) pa_nil)) (pe_one (pe_chain op_le op_lt pe_int (pv 0) (pv 1)))))), ?_⟩
    walk_at "rds"
    refine ⟨i, rfl, ?_⟩
    walk_at "rd"
    refine rd_ifd (fun h0 => ?_) (fun h0 => ?_)
    · walk_at "rd"
      unfold below at k
      rw [decide_eq_true h0] at k
      exact k
    · unfold below at k
      rw [decide_eq_false h0] at k
      exact k
def spRing : Sp := fun vs H Q _ => ∃ i : Int, vs = [.int i] ∧ Q (.bl (below i 8)) H
theorem ok_ring {f : Addr} {fd : FuncData} (B : BT mg) (F : Fun K "is_ring" "is_ring" s_is_ring f fd) (hm : mg "is_ring" = some (.ref f)) (G_RINGS : GI mg "RINGS" 8) (C_is_below : Cal P w K mg base "is_below" 2 ["number", "bound"] spBelow) : Cal P w K mg base "is_ring" 3 ["number"] spRing := by
  refine ⟨f, fd, hm, F.kp, F.binds (ps := ["number"]) fun _ _ _ _ _ _ us hl => match us, hl with | [_], _ => rfl, ?_⟩
  refine F.ok sc_is_ring (fun vs H Q E h => ?_) (fun cdv A outer s H vs Q E hr h => ?_)
  · obtain ⟨i, rfl, _⟩ := h
    rfl
  · obtain ⟨i, rfl, k⟩ := h
    refine ⟨_, (pss_one (ps_ret (pe_cal C_is_below (hr.mono (by omega)) rfl (pa_cons (pv 0) (pa_cons (pe_gi G_RINGS rfl) pa_nil))))), ?_⟩
    walk_at "rds"
    exact ⟨i, 8, rfl, k⟩
def spNFits : Sp := fun vs H Q _ => ∃ (c : Nat) (i m : Int), vs = [.str ⟨#[c]⟩, .int i, .int m] ∧ Q (.bl (numFits c i m)) H
theorem sign_eq {c d : Nat} : ((⟨#[c]⟩ : Str) = ⟨#[d]⟩) ↔ c = d := ⟨fun h => by injection h with h; simpa using h, fun h => by rw [h]⟩
def spRowFits : Sp := fun vs H Q _ => ∃ (v : V) (r : Rw) (m : Int), vs = [v, .int m] ∧ Rp H v r.d ∧ RwForm r ∧ ∀ H', Same H H' → Q (.bl (rowFits r m)) H'

end
end Rg

namespace Rg
open PySem PySem.Spec L2
local macro_rules | `(tactic| walk_at "rd1") => `(tactic| first
  | with_reducible refine rd_seq ?_
  | with_reducible refine rd_asg ?_
  | ((with_reducible show tVar _ _ _ _); refine rd_var rfl ?_)
  | with_reducible refine rd_c ?_
  | with_reducible refine rd_op ?_
  | with_reducible refine rd_I0 ?_
  | with_reducible refine rd_name ?_
  | with_reducible refine rd_ret ?_
  | with_reducible refine rd_ifs ?_
  | with_reducible refine rd_test ?_
  | with_reducible refine rd_tB ?_
  | with_reducible refine rd_bl ?_
  | with_reducible refine rd_drop ?_
  | with_reducible refine rd_nil ?_
  | with_reducible refine rd_cons ?_
  | with_reducible refine rd_call ?_
  | with_reducible refine rd_cb ?_
  | with_reducible refine rd_tup ?_
  | with_reducible refine rd_lst ?_
  | with_reducible refine rd_and ?_
  | with_reducible refine rd_or ?_
  | with_reducible refine rd_not ?_
  | with_reducible refine rd_andV ?_
  | with_reducible refine rd_orV ?_
  | with_reducible refine rd_notV ?_
  | with_reducible refine rd_chain ?_
  | with_reducible refine rd_un ?_
  | with_reducible refine rd_isN ?_
  | with_reducible refine rd_bm ?_
  | with_reducible refine rd_bm0 ?_
  | with_reducible refine rd_gsub ?_
  | with_reducible refine rd_sl ?_
  | with_reducible refine rd_gt ?_
  | with_reducible refine rd_yes ?_
  | with_reducible refine rd_gcons ?_
  | with_reducible refine rd_gnil ?_
  | with_reducible refine rd_part ?_
  | with_reducible refine rd_nopart ?_
  | ((with_reducible show gTup _ _ _ _ _ _ _); refine rd_gtup (by first | assumption | exact upd_same) rfl ?_)
  | ((with_reducible show gLst _ _ _ _ _ _ _); refine rd_glst (by first | assumption | exact upd_same) rfl ?_)
  | ((with_reducible show rIsi _ _ _ _); first | refine rd_isi (b := true) (.ty _) (.base (by first | exact .int _ | exact .str _ | exact .bl _ | exact .non | exact .tup (by assumption) | exact .lst (by assumption))) (kit_ty (by decide +kernel)) ?_ | refine rd_isi (b := false) (.ty _) (.base (by first | exact .int _ | exact .str _ | exact .bl _ | exact .non | exact .tup (by assumption) | exact .lst (by assumption))) (kit_ty (by decide +kernel)) ?_)
  | with_reducible refine rd_fld ?_
  | with_reducible refine rd_sfld ?_
  | with_reducible refine rd_meth ?_
  | with_reducible refine rd_make ?_
  | with_reducible refine rd_makeK ?_
  | with_reducible refine rd_U ?_
  | with_reducible refine rd_makeKS ?_
  | with_reducible refine rd_callN ?_
  | with_reducible refine rd_rs ?_
  | with_reducible refine rd_rf ?_
  | with_reducible refine rd_star ?_
  | with_reducible refine rd_callS ?_
  | with_reducible refine rd_for ?_
  | with_reducible refine rd_lc ?_
  | with_reducible refine rd_ilist ?_
  | with_reducible refine rd_itup ?_
  | with_reducible refine rd_irng ?_
  | with_reducible refine rd_izipS ?_
  | with_reducible refine rd_ienum ?_
  | with_reducible refine rd_ienT ?_
  | with_reducible refine rd_next ?_
  | with_reducible refine rd_eq rfl ?_
  | with_reducible refine rd_ne rfl ?_
  | with_reducible refine iteT ?_
  | with_reducible refine iteF ?_
  | with_reducible refine rd_ifnT ?_
  | with_reducible refine rd_ifnF ?_
  | ((with_reducible show rI (fun _ j => (0 : Int) < j) _ _ _ _ _); refine rd_mod (by omega) ?_)
  | with_reducible refine rd_new rfl ?_
  | ((with_reducible show rIxL _ _ (V.int 0) _ _); refine rd_ixL0 (by first | assumption | exact upd_same) ?_)
  | ((with_reducible show rIxL _ _ _ _ _); refine rd_ixL (by first | assumption | exact upd_same) rfl ?_)
  | ((with_reducible show rSetL _ _ _ _ _); refine rd_setL (by first | assumption | exact upd_same) rfl ?_)
  | ((with_reducible show rI CMul _ _ _ _ _); refine rd_mul (by first | exact Or.inl ⟨by omega, by omega⟩ | exact Or.inr ⟨by omega, by omega⟩) ?_)
  | ((with_reducible show tyV _ "list" _ _ ∧ _); refine rd_tyL (by first | assumption | exact upd_same) ?_)
  | ((with_reducible show rIxT _ _ (V.int 0) _ _); refine rd_ixT0 (by first | assumption | exact upd_same) ?_)
  | ((with_reducible show rIxT _ _ _ _ _); refine rd_ixT (by first | assumption | exact upd_same) rfl ?_))
local macro_rules | `(tactic| walk_at "rdn1") => `(tactic| first
  | with_reducible refine rd_seq ?_
  | with_reducible refine rd_asg ?_
  | ((with_reducible show tVar _ _ _ _); refine rd_var rfl ?_)
  | with_reducible refine rd_c ?_
  | with_reducible refine rd_op ?_
  | with_reducible refine rd_I0 ?_
  | with_reducible refine rd_name ?_
  | with_reducible refine rd_ret ?_
  | with_reducible refine rd_ifs ?_
  | with_reducible refine rd_test ?_
  | with_reducible refine rd_tB ?_
  | with_reducible refine rd_bl ?_
  | with_reducible refine rd_drop ?_
  | with_reducible refine rd_nil ?_
  | with_reducible refine rd_cons ?_
  | with_reducible refine rd_call ?_
  | with_reducible refine rd_cb ?_
  | with_reducible refine rd_tup ?_
  | with_reducible refine rd_lst ?_
  | with_reducible refine rd_and ?_
  | with_reducible refine rd_or ?_
  | with_reducible refine rd_not ?_
  | with_reducible refine rd_notV ?_
  | with_reducible refine rd_chain ?_
  | with_reducible refine rd_un ?_
  | with_reducible refine rd_isN ?_
  | with_reducible refine rd_bm ?_
  | with_reducible refine rd_bm0 ?_
  | with_reducible refine rd_gsub ?_
  | with_reducible refine rd_sl ?_
  | with_reducible refine rd_gt ?_
  | with_reducible refine rd_yes ?_
  | with_reducible refine rd_gcons ?_
  | with_reducible refine rd_gnil ?_
  | with_reducible refine rd_part ?_
  | with_reducible refine rd_nopart ?_
  | ((with_reducible show gTup _ _ _ _ _ _ _); refine rd_gtup (by first | assumption | exact upd_same) rfl ?_)
  | ((with_reducible show gLst _ _ _ _ _ _ _); refine rd_glst (by first | assumption | exact upd_same) rfl ?_)
  | ((with_reducible show rIsi _ _ _ _); first | refine rd_isi (b := true) (.ty _) (.base (by first | exact .int _ | exact .str _ | exact .bl _ | exact .non | exact .tup (by assumption) | exact .lst (by assumption))) (kit_ty (by decide +kernel)) ?_ | refine rd_isi (b := false) (.ty _) (.base (by first | exact .int _ | exact .str _ | exact .bl _ | exact .non | exact .tup (by assumption) | exact .lst (by assumption))) (kit_ty (by decide +kernel)) ?_)
  | with_reducible refine rd_fld ?_
  | with_reducible refine rd_sfld ?_
  | with_reducible refine rd_meth ?_
  | with_reducible refine rd_make ?_
  | with_reducible refine rd_makeK ?_
  | with_reducible refine rd_U ?_
  | with_reducible refine rd_makeKS ?_
  | with_reducible refine rd_callN ?_
  | with_reducible refine rd_rs ?_
  | with_reducible refine rd_rf ?_
  | with_reducible refine rd_star ?_
  | with_reducible refine rd_callS ?_
  | with_reducible refine rd_for ?_
  | with_reducible refine rd_lc ?_
  | with_reducible refine rd_ilist ?_
  | with_reducible refine rd_itup ?_
  | with_reducible refine rd_irng ?_
  | with_reducible refine rd_izipS ?_
  | with_reducible refine rd_ienum ?_
  | with_reducible refine rd_ienT ?_
  | with_reducible refine rd_next ?_
  | with_reducible refine rd_eq rfl ?_
  | with_reducible refine rd_ne rfl ?_
  | with_reducible refine iteT ?_
  | with_reducible refine iteF ?_
  | with_reducible refine rd_ifnT ?_
  | with_reducible refine rd_ifnF ?_
  | ((with_reducible show rI (fun _ j => (0 : Int) < j) _ _ _ _ _); refine rd_mod (by omega) ?_)
  | with_reducible refine rd_new rfl ?_
  | ((with_reducible show rIxL _ _ (V.int 0) _ _); refine rd_ixL0 (by first | assumption | exact upd_same) ?_)
  | ((with_reducible show rIxL _ _ _ _ _); refine rd_ixL (by first | assumption | exact upd_same) rfl ?_)
  | ((with_reducible show rSetL _ _ _ _ _); refine rd_setL (by first | assumption | exact upd_same) rfl ?_)
  | ((with_reducible show rI CMul _ _ _ _ _); refine rd_mul (by first | exact Or.inl ⟨by omega, by omega⟩ | exact Or.inr ⟨by omega, by omega⟩) ?_)
  | ((with_reducible show tyV _ "list" _ _ ∧ _); refine rd_tyL (by first | assumption | exact upd_same) ?_)
  | ((with_reducible show rIxT _ _ (V.int 0) _ _); refine rd_ixT0 (by first | assumption | exact upd_same) ?_)
  | ((with_reducible show rIxT _ _ _ _ _); refine rd_ixT (by first | assumption | exact upd_same) rfl ?_))
local macro_rules | `(tactic| walk_at "rd") => `(tactic| (repeat (first | walk_at "rd1" | dsimp only)))
local macro_rules | `(tactic| walk_at "rds") => `(tactic| (dsimp only [cxOf, Cx.nox, Cx.wish, Cx.blk, L2.start]; walk_at "rd"))
local macro_rules | `(tactic| walk_at "rdn") => `(tactic| (repeat (first | walk_at "rdn1" | dsimp only)))
section
variable {P : Program} {w : World} {K : PySem.W.Frag} {mg : Str → Option Value} {base : Heap}

def spWordFits : Sp := fun vs H Q _ => ∃ (v : V) (x : Wd) (b m : Int), vs = [v, .int b, .int m] ∧ Rp H v x.d ∧ ∀ H', Same H H' → Q (.bl (wdFits x b m)) H'
def spBrFits : Sp := fun vs H Q _ => ∃ (v : V) (a b c : Int), vs = [v] ∧ Rp H v (.tuple [.int a, .int b, .int c]) ∧ ∀ H', Same H H' → Q (.bl (brFits a b c)) H'
def spSgFits : Sp := fun vs H Q _ => ∃ (v : V) (x : Sg) (b m : Int), vs = [v, .int b, .int m] ∧ Rp H v x.d ∧ SgForm x ∧ x.ws.length ≤ 900 ∧ x.rs.length ≤ 900 ∧ ∀ H', Same H H' → Q (.bl (sgFits x b m)) H'

end
end Rg

namespace Rg
open PySem PySem.Spec L2
local macro_rules | `(tactic| walk_at "rd1") => `(tactic| first
  | with_reducible refine rd_seq ?_
  | with_reducible refine rd_asg ?_
  | ((with_reducible show tVar _ _ _ _); refine rd_var rfl ?_)
  | with_reducible refine rd_c ?_
  | with_reducible refine rd_op ?_
  | with_reducible refine rd_I0 ?_
  | with_reducible refine rd_name ?_
  | with_reducible refine rd_ret ?_
  | with_reducible refine rd_ifs ?_
  | with_reducible refine rd_test ?_
  | with_reducible refine rd_tB ?_
  | with_reducible refine rd_bl ?_
  | with_reducible refine rd_drop ?_
  | with_reducible refine rd_nil ?_
  | with_reducible refine rd_cons ?_
  | with_reducible refine rd_call ?_
  | with_reducible refine rd_cb ?_
  | with_reducible refine rd_tup ?_
  | with_reducible refine rd_lst ?_
  | with_reducible refine rd_and ?_
  | with_reducible refine rd_or ?_
  | with_reducible refine rd_not ?_
  | with_reducible refine rd_andV ?_
  | with_reducible refine rd_orV ?_
  | with_reducible refine rd_notV ?_
  | with_reducible refine rd_chain ?_
  | with_reducible refine rd_un ?_
  | with_reducible refine rd_isN ?_
  | with_reducible refine rd_bm ?_
  | with_reducible refine rd_bm0 ?_
  | with_reducible refine rd_gsub ?_
  | with_reducible refine rd_sl ?_
  | with_reducible refine rd_gt ?_
  | with_reducible refine rd_yes ?_
  | with_reducible refine rd_gcons ?_
  | with_reducible refine rd_gnil ?_
  | with_reducible refine rd_part ?_
  | with_reducible refine rd_nopart ?_
  | ((with_reducible show gTup _ _ _ _ _ _ _); refine rd_gtup (by first | assumption | exact upd_same) rfl ?_)
  | ((with_reducible show gLst _ _ _ _ _ _ _); refine rd_glst (by first | assumption | exact upd_same) rfl ?_)
  | ((with_reducible show rIsi _ _ _ _); first | refine rd_isi (b := true) (.ty _) (.base (by first | exact .int _ | exact .str _ | exact .bl _ | exact .non | exact .tup (by assumption) | exact .lst (by assumption))) (kit_ty (by decide +kernel)) ?_ | refine rd_isi (b := false) (.ty _) (.base (by first | exact .int _ | exact .str _ | exact .bl _ | exact .non | exact .tup (by assumption) | exact .lst (by assumption))) (kit_ty (by decide +kernel)) ?_)
  | with_reducible refine rd_fld ?_
  | with_reducible refine rd_sfld ?_
  | with_reducible refine rd_meth ?_
  | with_reducible refine rd_make ?_
  | with_reducible refine rd_makeK ?_
  | with_reducible refine rd_U ?_
  | with_reducible refine rd_makeKS ?_
  | with_reducible refine rd_callN ?_
  | with_reducible refine rd_rs ?_
  | with_reducible refine rd_rf ?_
  | with_reducible refine rd_star ?_
  | with_reducible refine rd_callS ?_
  | with_reducible refine rd_for ?_
  | with_reducible refine rd_lc ?_
  | with_reducible refine rd_ilist ?_
  | with_reducible refine rd_itup ?_
  | with_reducible refine rd_irng ?_
  | with_reducible refine rd_izipS ?_
  | with_reducible refine rd_ienum ?_
  | with_reducible refine rd_ienT ?_
  | with_reducible refine rd_next ?_
  | with_reducible refine rd_eq rfl ?_
  | with_reducible refine rd_ne rfl ?_
  | with_reducible refine iteT ?_
  | with_reducible refine iteF ?_
  | with_reducible refine rd_ifnT ?_
  | with_reducible refine rd_ifnF ?_
  | ((with_reducible show rI (fun _ j => (0 : Int) < j) _ _ _ _ _); refine rd_mod (by omega) ?_)
  | with_reducible refine rd_new rfl ?_
  | ((with_reducible show rIxL _ _ (V.int 0) _ _); refine rd_ixL0 (by first | assumption | exact upd_same) ?_)
  | ((with_reducible show rIxL _ _ _ _ _); refine rd_ixL (by first | assumption | exact upd_same) rfl ?_)
  | ((with_reducible show rSetL _ _ _ _ _); refine rd_setL (by first | assumption | exact upd_same) rfl ?_)
  | ((with_reducible show rI CMul _ _ _ _ _); refine rd_mul (by first | exact Or.inl ⟨by omega, by omega⟩ | exact Or.inr ⟨by omega, by omega⟩) ?_)
  | ((with_reducible show tyV _ "list" _ _ ∧ _); refine rd_tyL (by first | assumption | exact upd_same) ?_)
  | ((with_reducible show rIxT _ _ (V.int 0) _ _); refine rd_ixT0 (by first | assumption | exact upd_same) ?_)
  | ((with_reducible show rIxT _ _ _ _ _); refine rd_ixT (by first | assumption | exact upd_same) rfl ?_))
local macro_rules | `(tactic| walk_at "rdn1") => `(tactic| first
  | with_reducible refine rd_seq ?_
  | with_reducible refine rd_asg ?_
  | ((with_reducible show tVar _ _ _ _); refine rd_var rfl ?_)
  | with_reducible refine rd_c ?_
  | with_reducible refine rd_op ?_
  | with_reducible refine rd_I0 ?_
  | with_reducible refine rd_name ?_
  | with_reducible refine rd_ret ?_
  | with_reducible refine rd_ifs ?_
  | with_reducible refine rd_test ?_
  | with_reducible refine rd_tB ?_
  | with_reducible refine rd_bl ?_
  | with_reducible refine rd_drop ?_
  | with_reducible refine rd_nil ?_
  | with_reducible refine rd_cons ?_
  | with_reducible refine rd_call ?_
  | with_reducible refine rd_cb ?_
  | with_reducible refine rd_tup ?_
  | with_reducible refine rd_lst ?_
  | with_reducible refine rd_and ?_
  | with_reducible refine rd_or ?_
  | with_reducible refine rd_not ?_
  | with_reducible refine rd_notV ?_
  | with_reducible refine rd_chain ?_
  | with_reducible refine rd_un ?_
  | with_reducible refine rd_isN ?_
  | with_reducible refine rd_bm ?_
  | with_reducible refine rd_bm0 ?_
  | with_reducible refine rd_gsub ?_
  | with_reducible refine rd_sl ?_
  | with_reducible refine rd_gt ?_
  | with_reducible refine rd_yes ?_
  | with_reducible refine rd_gcons ?_
  | with_reducible refine rd_gnil ?_
  | with_reducible refine rd_part ?_
  | with_reducible refine rd_nopart ?_
  | ((with_reducible show gTup _ _ _ _ _ _ _); refine rd_gtup (by first | assumption | exact upd_same) rfl ?_)
  | ((with_reducible show gLst _ _ _ _ _ _ _); refine rd_glst (by first | assumption | exact upd_same) rfl ?_)
  | ((with_reducible show rIsi _ _ _ _); first | refine rd_isi (b := true) (.ty _) (.base (by first | exact .int _ | exact .str _ | exact .bl _ | exact .non | exact .tup (by assumption) | exact .lst (by assumption))) (kit_ty (by decide +kernel)) ?_ | refine rd_isi (b := false) (.ty _) (.base (by first | exact .int _ | exact .str _ | exact .bl _ | exact .non | exact .tup (by assumption) | exact .lst (by assumption))) (kit_ty (by decide +kernel)) ?_)
  | with_reducible refine rd_fld ?_
  | with_reducible refine rd_sfld ?_
  | with_reducible refine rd_meth ?_
  | with_reducible refine rd_make ?_
  | with_reducible refine rd_makeK ?_
  | with_reducible refine rd_U ?_
  | with_reducible refine rd_makeKS ?_
  | with_reducible refine rd_callN ?_
  | with_reducible refine rd_rs ?_
  | with_reducible refine rd_rf ?_
  | with_reducible refine rd_star ?_
  | with_reducible refine rd_callS ?_
  | with_reducible refine rd_for ?_
  | with_reducible refine rd_lc ?_
  | with_reducible refine rd_ilist ?_
  | with_reducible refine rd_itup ?_
  | with_reducible refine rd_irng ?_
  | with_reducible refine rd_izipS ?_
  | with_reducible refine rd_ienum ?_
  | with_reducible refine rd_ienT ?_
  | with_reducible refine rd_next ?_
  | with_reducible refine rd_eq rfl ?_
  | with_reducible refine rd_ne rfl ?_
  | with_reducible refine iteT ?_
  | with_reducible refine iteF ?_
  | with_reducible refine rd_ifnT ?_
  | with_reducible refine rd_ifnF ?_
  | ((with_reducible show rI (fun _ j => (0 : Int) < j) _ _ _ _ _); refine rd_mod (by omega) ?_)
  | with_reducible refine rd_new rfl ?_
  | ((with_reducible show rIxL _ _ (V.int 0) _ _); refine rd_ixL0 (by first | assumption | exact upd_same) ?_)
  | ((with_reducible show rIxL _ _ _ _ _); refine rd_ixL (by first | assumption | exact upd_same) rfl ?_)
  | ((with_reducible show rSetL _ _ _ _ _); refine rd_setL (by first | assumption | exact upd_same) rfl ?_)
  | ((with_reducible show rI CMul _ _ _ _ _); refine rd_mul (by first | exact Or.inl ⟨by omega, by omega⟩ | exact Or.inr ⟨by omega, by omega⟩) ?_)
  | ((with_reducible show tyV _ "list" _ _ ∧ _); refine rd_tyL (by first | assumption | exact upd_same) ?_)
  | ((with_reducible show rIxT _ _ (V.int 0) _ _); refine rd_ixT0 (by first | assumption | exact upd_same) ?_)
  | ((with_reducible show rIxT _ _ _ _ _); refine rd_ixT (by first | assumption | exact upd_same) rfl ?_))
local macro_rules | `(tactic| walk_at "rd") => `(tactic| (repeat (first | walk_at "rd1" | dsimp only)))
local macro_rules | `(tactic| walk_at "rds") => `(tactic| (dsimp only [cxOf, Cx.nox, Cx.wish, Cx.blk, L2.start]; walk_at "rd"))
local macro_rules | `(tactic| walk_at "rdn") => `(tactic| (repeat (first | walk_at "rdn1" | dsimp only)))
section
variable {P : Program} {w : World} {K : PySem.W.Frag} {mg : Str → Option Value} {base : Heap}


end
end Rg

namespace Rg
open PySem PySem.Spec L2
local macro_rules | `(tactic| walk_at "rd1") => `(tactic| first
  | with_reducible refine rd_seq ?_
  | with_reducible refine rd_asg ?_
  | ((with_reducible show tVar _ _ _ _); refine rd_var rfl ?_)
  | with_reducible refine rd_c ?_
  | with_reducible refine rd_op ?_
  | with_reducible refine rd_I0 ?_
  | with_reducible refine rd_name ?_
  | with_reducible refine rd_ret ?_
  | with_reducible refine rd_ifs ?_
  | with_reducible refine rd_test ?_
  | with_reducible refine rd_tB ?_
  | with_reducible refine rd_bl ?_
  | with_reducible refine rd_drop ?_
  | with_reducible refine rd_nil ?_
  | with_reducible refine rd_cons ?_
  | with_reducible refine rd_call ?_
  | with_reducible refine rd_cb ?_
  | with_reducible refine rd_tup ?_
  | with_reducible refine rd_lst ?_
  | with_reducible refine rd_and ?_
  | with_reducible refine rd_or ?_
  | with_reducible refine rd_not ?_
  | with_reducible refine rd_andV ?_
  | with_reducible refine rd_orV ?_
  | with_reducible refine rd_notV ?_
  | with_reducible refine rd_chain ?_
  | with_reducible refine rd_un ?_
  | with_reducible refine rd_isN ?_
  | with_reducible refine rd_bm ?_
  | with_reducible refine rd_bm0 ?_
  | with_reducible refine rd_gsub ?_
  | with_reducible refine rd_sl ?_
  | with_reducible refine rd_gt ?_
  | with_reducible refine rd_yes ?_
  | with_reducible refine rd_gcons ?_
  | with_reducible refine rd_gnil ?_
  | with_reducible refine rd_part ?_
  | with_reducible refine rd_nopart ?_
  | ((with_reducible show gTup _ _ _ _ _ _ _); refine rd_gtup (by first | assumption | exact upd_same) rfl ?_)
  | ((with_reducible show gLst _ _ _ _ _ _ _); refine rd_glst (by first | assumption | exact upd_same) rfl ?_)
  | ((with_reducible show rIsi _ _ _ _); first | refine rd_isi (b := true) (.ty _) (.base (by first | exact .int _ | exact .str _ | exact .bl _ | exact .non | exact .tup (by assumption) | exact .lst (by assumption))) (kit_ty (by decide +kernel)) ?_ | refine rd_isi (b := false) (.ty _) (.base (by first | exact .int _ | exact .str _ | exact .bl _ | exact .non | exact .tup (by assumption) | exact .lst (by assumption))) (kit_ty (by decide +kernel)) ?_)
  | with_reducible refine rd_fld ?_
  | with_reducible refine rd_sfld ?_
  | with_reducible refine rd_meth ?_
  | with_reducible refine rd_make ?_
  | with_reducible refine rd_makeK ?_
  | with_reducible refine rd_U ?_
  | with_reducible refine rd_makeKS ?_
  | with_reducible refine rd_callN ?_
  | with_reducible refine rd_rs ?_
  | with_reducible refine rd_rf ?_
  | with_reducible refine rd_star ?_
  | with_reducible refine rd_callS ?_
  | with_reducible refine rd_for ?_
  | with_reducible refine rd_lc ?_
  | with_reducible refine rd_ilist ?_
  | with_reducible refine rd_itup ?_
  | with_reducible refine rd_irng ?_
  | with_reducible refine rd_izipS ?_
  | with_reducible refine rd_ienum ?_
  | with_reducible refine rd_ienT ?_
  | with_reducible refine rd_next ?_
  | with_reducible refine rd_eq rfl ?_
  | with_reducible refine rd_ne rfl ?_
  | with_reducible refine iteT ?_
  | with_reducible refine iteF ?_
  | with_reducible refine rd_ifnT ?_
  | with_reducible refine rd_ifnF ?_
  | ((with_reducible show rI (fun _ j => (0 : Int) < j) _ _ _ _ _); refine rd_mod (by omega) ?_)
  | with_reducible refine rd_new rfl ?_
  | ((with_reducible show rIxL _ _ (V.int 0) _ _); refine rd_ixL0 (by first | assumption | exact upd_same) ?_)
  | ((with_reducible show rIxL _ _ _ _ _); refine rd_ixL (by first | assumption | exact upd_same) rfl ?_)
  | ((with_reducible show rSetL _ _ _ _ _); refine rd_setL (by first | assumption | exact upd_same) rfl ?_)
  | ((with_reducible show rI CMul _ _ _ _ _); refine rd_mul (by first | exact Or.inl ⟨by omega, by omega⟩ | exact Or.inr ⟨by omega, by omega⟩) ?_)
  | ((with_reducible show tyV _ "list" _ _ ∧ _); refine rd_tyL (by first | assumption | exact upd_same) ?_)
  | ((with_reducible show rIxT _ _ (V.int 0) _ _); refine rd_ixT0 (by first | assumption | exact upd_same) ?_)
  | ((with_reducible show rIxT _ _ _ _ _); refine rd_ixT (by first | assumption | exact upd_same) rfl ?_))
local macro_rules | `(tactic| walk_at "rdn1") => `(tactic| first
  | with_reducible refine rd_seq ?_
  | with_reducible refine rd_asg ?_
  | ((with_reducible show tVar _ _ _ _); refine rd_var rfl ?_)
  | with_reducible refine rd_c ?_
  | with_reducible refine rd_op ?_
  | with_reducible refine rd_I0 ?_
  | with_reducible refine rd_name ?_
  | with_reducible refine rd_ret ?_
  | with_reducible refine rd_ifs ?_
  | with_reducible refine rd_test ?_
  | with_reducible refine rd_tB ?_
  | with_reducible refine rd_bl ?_
  | with_reducible refine rd_drop ?_
  | with_reducible refine rd_nil ?_
  | with_reducible refine rd_cons ?_
  | with_reducible refine rd_call ?_
  | with_reducible refine rd_cb ?_
  | with_reducible refine rd_tup ?_
  | with_reducible refine rd_lst ?_
  | with_reducible refine rd_and ?_
  | with_reducible refine rd_or ?_
  | with_reducible refine rd_not ?_
  | with_reducible refine rd_notV ?_
  | with_reducible refine rd_chain ?_
  | with_reducible refine rd_un ?_
  | with_reducible refine rd_isN ?_
  | with_reducible refine rd_bm ?_
  | with_reducible refine rd_bm0 ?_
  | with_reducible refine rd_gsub ?_
  | with_reducible refine rd_sl ?_
  | with_reducible refine rd_gt ?_
  | with_reducible refine rd_yes ?_
  | with_reducible refine rd_gcons ?_
  | with_reducible refine rd_gnil ?_
  | with_reducible refine rd_part ?_
  | with_reducible refine rd_nopart ?_
  | ((with_reducible show gTup _ _ _ _ _ _ _); refine rd_gtup (by first | assumption | exact upd_same) rfl ?_)
  | ((with_reducible show gLst _ _ _ _ _ _ _); refine rd_glst (by first | assumption | exact upd_same) rfl ?_)
  | ((with_reducible show rIsi _ _ _ _); first | refine rd_isi (b := true) (.ty _) (.base (by first | exact .int _ | exact .str _ | exact .bl _ | exact .non | exact .tup (by assumption) | exact .lst (by assumption))) (kit_ty (by decide +kernel)) ?_ | refine rd_isi (b := false) (.ty _) (.base (by first | exact .int _ | exact .str _ | exact .bl _ | exact .non | exact .tup (by assumption) | exact .lst (by assumption))) (kit_ty (by decide +kernel)) ?_)
  | with_reducible refine rd_fld ?_
  | with_reducible refine rd_sfld ?_
  | with_reducible refine rd_meth ?_
  | with_reducible refine rd_make ?_
  | with_reducible refine rd_makeK ?_
  | with_reducible refine rd_U ?_
  | with_reducible refine rd_makeKS ?_
  | with_reducible refine rd_callN ?_
  | with_reducible refine rd_rs ?_
  | with_reducible refine rd_rf ?_
  | with_reducible refine rd_star ?_
  | with_reducible refine rd_callS ?_
  | with_reducible refine rd_for ?_
  | with_reducible refine rd_lc ?_
  | with_reducible refine rd_ilist ?_
  | with_reducible refine rd_itup ?_
  | with_reducible refine rd_irng ?_
  | with_reducible refine rd_izipS ?_
  | with_reducible refine rd_ienum ?_
  | with_reducible refine rd_ienT ?_
  | with_reducible refine rd_next ?_
  | with_reducible refine rd_eq rfl ?_
  | with_reducible refine rd_ne rfl ?_
  | with_reducible refine iteT ?_
  | with_reducible refine iteF ?_
  | with_reducible refine rd_ifnT ?_
  | with_reducible refine rd_ifnF ?_
  | ((with_reducible show rI (fun _ j => (0 : Int) < j) _ _ _ _ _); refine rd_mod (by omega) ?_)
  | with_reducible refine rd_new rfl ?_
  | ((with_reducible show rIxL _ _ (V.int 0) _ _); refine rd_ixL0 (by first | assumption | exact upd_same) ?_)
  | ((with_reducible show rIxL _ _ _ _ _); refine rd_ixL (by first | assumption | exact upd_same) rfl ?_)
  | ((with_reducible show rSetL _ _ _ _ _); refine rd_setL (by first | assumption | exact upd_same) rfl ?_)
  | ((with_reducible show rI CMul _ _ _ _ _); refine rd_mul (by first | exact Or.inl ⟨by omega, by omega⟩ | exact Or.inr ⟨by omega, by omega⟩) ?_)
  | ((with_reducible show tyV _ "list" _ _ ∧ _); refine rd_tyL (by first | assumption | exact upd_same) ?_)
  | ((with_reducible show rIxT _ _ (V.int 0) _ _); refine rd_ixT0 (by first | assumption | exact upd_same) ?_)
  | ((with_reducible show rIxT _ _ _ _ _); refine rd_ixT (by first | assumption | exact upd_same) rfl ?_))
local macro_rules | `(tactic| walk_at "rd") => `(tactic| (repeat (first | walk_at "rd1" | dsimp only)))
local macro_rules | `(tactic| walk_at "rds") => `(tactic| (dsimp only [cxOf, Cx.nox, Cx.wish, Cx.blk, L2.start]; walk_at "rd"))
local macro_rules | `(tactic| walk_at "rdn") => `(tactic| (repeat (first | walk_at "rdn1" | dsimp only)))
section
variable {P : Program} {w : World} {K : PySem.W.Frag} {mg : Str → Option Value} {base : Heap}

theorem ok_REinit {f : Addr} {fd : FuncData} (F : Fun K "__init__" "RingError.__init__" s_RingError__init f fd) (gVE : mg "ValueError" = none) (vV : PySem.W.findCls K (.type "ValueError") (.type "type") "__init__" = some (.val (.builtin "ValueError.__init__"))) : FnOk P w K mg base CX0 1 f fd ["self", "what"] (spRE K) := by
  refine F.ok sc_RingError__init (fun vs H Q E h => ?_) (fun cdv A outer s H vs Q E hr h => ?_)
  · obtain ⟨a, C, v, rfl, _⟩ := h
    rfl
  · obtain ⟨a, C, v, rfl, hi, T, hw, ha, k⟩ := h
    refine ⟨_, (pss_cons (ps_expr (pe_veinit rfl gVE vV (pa_cons (pv 0) (pa_cons (pe_joined (.cons pe_str (.cons (pe_fmtX (pv 1)) .nil))) pa_nil))))
 (pss_one (ps_ost (pv 0) (pv 1)))), ?_⟩
    walk_at "rds"
    refine ⟨_, rfl, _, rfl, by decide +kernel, _, rfl, hi, fun y hy => ⟨_, rfl, ?_, a, C, _, rfl, by show 1 ≤ 1000; decide, T, ha, ?_⟩⟩
    · rw [Str.length_append]
      have h9 : ((Str.empty ++ "refused: " : Str)).length = 9 := by decide +kernel
      rw [h9, sizeLine_eq]
      exact Nat.le_trans (Nat.add_le_add_left hy 9) (by decide)
    · refine ⟨_, rfl, _, rfl, a, C, rfl, T, hw, .inl ⟨ha, fun dx hd ne => ?_⟩⟩
      exact k dx hd ne
theorem ok_NoRing_init {f f0 : Addr} {fd fd0 : FuncData} (U : UbC K mg "RingError" "__init__" f0) (F0 : FnOk P w K mg base CX0 1 f0 fd0 ["self", "what"] (spRE K)) (b0 : Binds K fd0 ["self", "what"] []) (F : Fun K "__init__" "NoRing.__init__" s_NoRing__init f fd) : FnOk P w K mg base CX0 2 f fd ["self", "what"] (spRE K) := by
  refine F.ok sc_NoRing__init (fun vs H Q E h => ?_) (fun cdv A outer s H vs Q E hr h => ?_)
  · obtain ⟨a, C, v, rfl, _⟩ := h
    rfl
  · obtain ⟨a, C, v, rfl, hv, T, hw, ha, k⟩ := h
    refine ⟨_, (pss_one (ps_expr (pe_ubm U rfl F0 b0 (hr.mono (by omega)) (pa_cons (pv 0) (pa_cons (pv 1) pa_nil))))), ?_⟩
    walk_at "rds"
    exact ⟨a, C, v, rfl, hv, T, hw, ha, k⟩

end
end Rg

namespace Rg
open PySem PySem.Spec L2
local macro_rules | `(tactic| walk_at "rd1") => `(tactic| first
  | with_reducible refine rd_seq ?_
  | with_reducible refine rd_asg ?_
  | ((with_reducible show tVar _ _ _ _); refine rd_var rfl ?_)
  | with_reducible refine rd_c ?_
  | with_reducible refine rd_op ?_
  | with_reducible refine rd_I0 ?_
  | with_reducible refine rd_name ?_
  | with_reducible refine rd_ret ?_
  | with_reducible refine rd_ifs ?_
  | with_reducible refine rd_test ?_
  | with_reducible refine rd_tB ?_
  | with_reducible refine rd_bl ?_
  | with_reducible refine rd_drop ?_
  | with_reducible refine rd_nil ?_
  | with_reducible refine rd_cons ?_
  | with_reducible refine rd_call ?_
  | with_reducible refine rd_cb ?_
  | with_reducible refine rd_tup ?_
  | with_reducible refine rd_lst ?_
  | with_reducible refine rd_and ?_
  | with_reducible refine rd_or ?_
  | with_reducible refine rd_not ?_
  | with_reducible refine rd_andV ?_
  | with_reducible refine rd_orV ?_
  | with_reducible refine rd_notV ?_
  | with_reducible refine rd_chain ?_
  | with_reducible refine rd_un ?_
  | with_reducible refine rd_isN ?_
  | with_reducible refine rd_bm ?_
  | with_reducible refine rd_bm0 ?_
  | with_reducible refine rd_gsub ?_
  | with_reducible refine rd_sl ?_
  | with_reducible refine rd_gt ?_
  | with_reducible refine rd_yes ?_
  | with_reducible refine rd_gcons ?_
  | with_reducible refine rd_gnil ?_
  | with_reducible refine rd_part ?_
  | with_reducible refine rd_nopart ?_
  | ((with_reducible show gTup _ _ _ _ _ _ _); refine rd_gtup (by first | assumption | exact upd_same) rfl ?_)
  | ((with_reducible show gLst _ _ _ _ _ _ _); refine rd_glst (by first | assumption | exact upd_same) rfl ?_)
  | ((with_reducible show rIsi _ _ _ _); first | refine rd_isi (b := true) (.ty _) (.base (by first | exact .int _ | exact .str _ | exact .bl _ | exact .non | exact .tup (by assumption) | exact .lst (by assumption))) (kit_ty (by decide +kernel)) ?_ | refine rd_isi (b := false) (.ty _) (.base (by first | exact .int _ | exact .str _ | exact .bl _ | exact .non | exact .tup (by assumption) | exact .lst (by assumption))) (kit_ty (by decide +kernel)) ?_)
  | with_reducible refine rd_fld ?_
  | with_reducible refine rd_sfld ?_
  | with_reducible refine rd_meth ?_
  | with_reducible refine rd_make ?_
  | with_reducible refine rd_makeK ?_
  | with_reducible refine rd_U ?_
  | with_reducible refine rd_makeKS ?_
  | with_reducible refine rd_callN ?_
  | with_reducible refine rd_rs ?_
  | with_reducible refine rd_rf ?_
  | with_reducible refine rd_star ?_
  | with_reducible refine rd_callS ?_
  | with_reducible refine rd_for ?_
  | with_reducible refine rd_lc ?_
  | with_reducible refine rd_ilist ?_
  | with_reducible refine rd_itup ?_
  | with_reducible refine rd_irng ?_
  | with_reducible refine rd_izipS ?_
  | with_reducible refine rd_ienum ?_
  | with_reducible refine rd_ienT ?_
  | with_reducible refine rd_next ?_
  | with_reducible refine rd_eq rfl ?_
  | with_reducible refine rd_ne rfl ?_
  | with_reducible refine iteT ?_
  | with_reducible refine iteF ?_
  | with_reducible refine rd_ifnT ?_
  | with_reducible refine rd_ifnF ?_
  | ((with_reducible show rI (fun _ j => (0 : Int) < j) _ _ _ _ _); refine rd_mod (by omega) ?_)
  | with_reducible refine rd_new rfl ?_
  | ((with_reducible show rIxL _ _ (V.int 0) _ _); refine rd_ixL0 (by first | assumption | exact upd_same) ?_)
  | ((with_reducible show rIxL _ _ _ _ _); refine rd_ixL (by first | assumption | exact upd_same) rfl ?_)
  | ((with_reducible show rSetL _ _ _ _ _); refine rd_setL (by first | assumption | exact upd_same) rfl ?_)
  | ((with_reducible show rI CMul _ _ _ _ _); refine rd_mul (by first | exact Or.inl ⟨by omega, by omega⟩ | exact Or.inr ⟨by omega, by omega⟩) ?_)
  | ((with_reducible show tyV _ "list" _ _ ∧ _); refine rd_tyL (by first | assumption | exact upd_same) ?_)
  | ((with_reducible show rIxT _ _ (V.int 0) _ _); refine rd_ixT0 (by first | assumption | exact upd_same) ?_)
  | ((with_reducible show rIxT _ _ _ _ _); refine rd_ixT (by first | assumption | exact upd_same) rfl ?_))
local macro_rules | `(tactic| walk_at "rdn1") => `(tactic| first
  | with_reducible refine rd_seq ?_
  | with_reducible refine rd_asg ?_
  | ((with_reducible show tVar _ _ _ _); refine rd_var rfl ?_)
  | with_reducible refine rd_c ?_
  | with_reducible refine rd_op ?_
  | with_reducible refine rd_I0 ?_
  | with_reducible refine rd_name ?_
  | with_reducible refine rd_ret ?_
  | with_reducible refine rd_ifs ?_
  | with_reducible refine rd_test ?_
  | with_reducible refine rd_tB ?_
  | with_reducible refine rd_bl ?_
  | with_reducible refine rd_drop ?_
  | with_reducible refine rd_nil ?_
  | with_reducible refine rd_cons ?_
  | with_reducible refine rd_call ?_
  | with_reducible refine rd_cb ?_
  | with_reducible refine rd_tup ?_
  | with_reducible refine rd_lst ?_
  | with_reducible refine rd_and ?_
  | with_reducible refine rd_or ?_
  | with_reducible refine rd_not ?_
  | with_reducible refine rd_notV ?_
  | with_reducible refine rd_chain ?_
  | with_reducible refine rd_un ?_
  | with_reducible refine rd_isN ?_
  | with_reducible refine rd_bm ?_
  | with_reducible refine rd_bm0 ?_
  | with_reducible refine rd_gsub ?_
  | with_reducible refine rd_sl ?_
  | with_reducible refine rd_gt ?_
  | with_reducible refine rd_yes ?_
  | with_reducible refine rd_gcons ?_
  | with_reducible refine rd_gnil ?_
  | with_reducible refine rd_part ?_
  | with_reducible refine rd_nopart ?_
  | ((with_reducible show gTup _ _ _ _ _ _ _); refine rd_gtup (by first | assumption | exact upd_same) rfl ?_)
  | ((with_reducible show gLst _ _ _ _ _ _ _); refine rd_glst (by first | assumption | exact upd_same) rfl ?_)
  | ((with_reducible show rIsi _ _ _ _); first | refine rd_isi (b := true) (.ty _) (.base (by first | exact .int _ | exact .str _ | exact .bl _ | exact .non | exact .tup (by assumption) | exact .lst (by assumption))) (kit_ty (by decide +kernel)) ?_ | refine rd_isi (b := false) (.ty _) (.base (by first | exact .int _ | exact .str _ | exact .bl _ | exact .non | exact .tup (by assumption) | exact .lst (by assumption))) (kit_ty (by decide +kernel)) ?_)
  | with_reducible refine rd_fld ?_
  | with_reducible refine rd_sfld ?_
  | with_reducible refine rd_meth ?_
  | with_reducible refine rd_make ?_
  | with_reducible refine rd_makeK ?_
  | with_reducible refine rd_U ?_
  | with_reducible refine rd_makeKS ?_
  | with_reducible refine rd_callN ?_
  | with_reducible refine rd_rs ?_
  | with_reducible refine rd_rf ?_
  | with_reducible refine rd_star ?_
  | with_reducible refine rd_callS ?_
  | with_reducible refine rd_for ?_
  | with_reducible refine rd_lc ?_
  | with_reducible refine rd_ilist ?_
  | with_reducible refine rd_itup ?_
  | with_reducible refine rd_irng ?_
  | with_reducible refine rd_izipS ?_
  | with_reducible refine rd_ienum ?_
  | with_reducible refine rd_ienT ?_
  | with_reducible refine rd_next ?_
  | with_reducible refine rd_eq rfl ?_
  | with_reducible refine rd_ne rfl ?_
  | with_reducible refine iteT ?_
  | with_reducible refine iteF ?_
  | with_reducible refine rd_ifnT ?_
  | with_reducible refine rd_ifnF ?_
  | ((with_reducible show rI (fun _ j => (0 : Int) < j) _ _ _ _ _); refine rd_mod (by omega) ?_)
  | with_reducible refine rd_new rfl ?_
  | ((with_reducible show rIxL _ _ (V.int 0) _ _); refine rd_ixL0 (by first | assumption | exact upd_same) ?_)
  | ((with_reducible show rIxL _ _ _ _ _); refine rd_ixL (by first | assumption | exact upd_same) rfl ?_)
  | ((with_reducible show rSetL _ _ _ _ _); refine rd_setL (by first | assumption | exact upd_same) rfl ?_)
  | ((with_reducible show rI CMul _ _ _ _ _); refine rd_mul (by first | exact Or.inl ⟨by omega, by omega⟩ | exact Or.inr ⟨by omega, by omega⟩) ?_)
  | ((with_reducible show tyV _ "list" _ _ ∧ _); refine rd_tyL (by first | assumption | exact upd_same) ?_)
  | ((with_reducible show rIxT _ _ (V.int 0) _ _); refine rd_ixT0 (by first | assumption | exact upd_same) ?_)
  | ((with_reducible show rIxT _ _ _ _ _); refine rd_ixT (by first | assumption | exact upd_same) rfl ?_))
local macro_rules | `(tactic| walk_at "rd") => `(tactic| (repeat (first | walk_at "rd1" | dsimp only)))
local macro_rules | `(tactic| walk_at "rds") => `(tactic| (dsimp only [cxOf, Cx.nox, Cx.wish, Cx.blk, L2.start]; walk_at "rd"))
local macro_rules | `(tactic| walk_at "rdn") => `(tactic| (repeat (first | walk_at "rdn1" | dsimp only)))
section
variable {P : Program} {w : World} {K : PySem.W.Frag} {mg : Str → Option Value} {base : Heap}

theorem ok_may_read {f : Addr} {fd : FuncData} (B : BT mg) (F : Fun K "may_read" "may_read" s_may_read f fd) (hm : mg "may_read" = some (.ref f)) : Cal P w K mg base "may_read" 1 ["segment", "ring"] (spMay mRead) := by
  refine ⟨f, fd, hm, F.kp, F.binds (ps := ["segment", "ring"]) fun _ _ _ _ _ _ us hl => match us, hl with | [_, _], _ => rfl, ?_⟩
  refine F.ok sc_may_read (fun vs H Q E h => ?_) (fun cdv A outer s H vs Q E hr h => ?_)
  · obtain ⟨v, x, e, rfl, _⟩ := h
    rfl
  · obtain ⟨v, ⟨r1, r2, r3, ri, ga, ws, rs⟩, e, rfl, hv, k⟩ := h
    refine ⟨_, (pss_cons (ps_asg (pe_slice (r := rSlT K) sl_tup (pv 0) po_none (po_some pe_int)) (pg_tup (by rfl) (pgs_cons (pg_name (i := 2) sc_may_read.nd rfl (Or.inl rfl)) (pgs_cons (pg_name (i := 3) sc_may_read.nd rfl (Or.inl rfl)) pgs_nil))))
 (pss_one (ps_ret (pe_and (pe_cmpR op_in_sign pe_str (pv 3) rfl) (pe_one (pe_cmpR op_le (pv 1) (pe_ix (r := rIxT K) ix_tup (pv 2) pe_int (fun _ _ => rfl)) (nomark _))))))), ?_⟩
    obtain ⟨p, xs, rfl, hp, ha⟩ := hv.tup_inv
    obtain ⟨x0, xr, rfl, h0, ha⟩ := ha.cons_inv
    obtain ⟨x1, xr, rfl, h1, ha⟩ := ha.cons_inv
    obtain ⟨x2, xr, rfl, h2, ha⟩ := ha.cons_inv
    have e1 := h1.str_inv; subst e1
    obtain ⟨pb, vb, rfl, hpb, hab⟩ := h0.tup_inv
    have eb := RpAll.ints_inv (ns := [r1, r2, r3]) hab
    subst eb
    replace hpb : H pb = some (.tup [.int r1, .int r2, .int r3]) := hpb
    walk_at "rds"
    refine ⟨2, rfl, ?_⟩
    refine rd_cut2 hp fun q hq => ?_
    have hpb2 := (same_upd (o := .tup [.ref pb, .str ri]) hq) _ _ hpb
    have k2 := k _ (same_upd (o := .tup [.ref pb, .str ri]) hq)
    unfold mRead has at k2
    dsimp only at k2
    walk_at "rd"
    refine ⟨114, ri, rfl, rfl, ?_⟩
    walk_at "rd"
    refine rd_ifd (fun hr => ?_) (fun hr => ?_)
    · rw [decide_eq_true hr] at k2
      walk_at "rd"
      exact k2
    · rw [decide_eq_false hr] at k2
      exact k2

theorem ok_may_write {f : Addr} {fd : FuncData} (B : BT mg) (F : Fun K "may_write" "may_write" s_may_write f fd) (hm : mg "may_write" = some (.ref f)) : Cal P w K mg base "may_write" 1 ["segment", "ring"] (spMay mWrite) := by
  refine ⟨f, fd, hm, F.kp, F.binds (ps := ["segment", "ring"]) fun _ _ _ _ _ _ us hl => match us, hl with | [_, _], _ => rfl, ?_⟩
  refine F.ok sc_may_write (fun vs H Q E h => ?_) (fun cdv A outer s H vs Q E hr h => ?_)
  · obtain ⟨v, x, e, rfl, _⟩ := h
    rfl
  · obtain ⟨v, ⟨r1, r2, r3, ri, ga, ws, rs⟩, e, rfl, hv, k⟩ := h
    refine ⟨_, (pss_cons (ps_asg (pe_slice (r := rSlT K) sl_tup (pv 0) po_none (po_some pe_int)) (pg_tup (by rfl) (pgs_cons (pg_name (i := 2) sc_may_write.nd rfl (Or.inl rfl)) (pgs_cons (pg_name (i := 3) sc_may_write.nd rfl (Or.inl rfl)) pgs_nil))))
 (pss_one (ps_ret (pe_and (pe_cmpR op_in_sign pe_str (pv 3) rfl) (pe_one (pe_cmpR op_le (pv 1) (pe_ix (r := rIxT K) ix_tup (pv 2) pe_int (fun _ _ => rfl)) (nomark _))))))), ?_⟩
    obtain ⟨p, xs, rfl, hp, ha⟩ := hv.tup_inv
    obtain ⟨x0, xr, rfl, h0, ha⟩ := ha.cons_inv
    obtain ⟨x1, xr, rfl, h1, ha⟩ := ha.cons_inv
    obtain ⟨x2, xr, rfl, h2, ha⟩ := ha.cons_inv
    have e1 := h1.str_inv; subst e1
    obtain ⟨pb, vb, rfl, hpb, hab⟩ := h0.tup_inv
    have eb := RpAll.ints_inv (ns := [r1, r2, r3]) hab
    subst eb
    replace hpb : H pb = some (.tup [.int r1, .int r2, .int r3]) := hpb
    walk_at "rds"
    refine ⟨2, rfl, ?_⟩
    refine rd_cut2 hp fun q hq => ?_
    have hpb2 := (same_upd (o := .tup [.ref pb, .str ri]) hq) _ _ hpb
    have k2 := k _ (same_upd (o := .tup [.ref pb, .str ri]) hq)
    unfold mWrite has at k2
    dsimp only at k2
    walk_at "rd"
    refine ⟨119, ri, rfl, rfl, ?_⟩
    walk_at "rd"
    refine rd_ifd (fun hr => ?_) (fun hr => ?_)
    · rw [decide_eq_true hr] at k2
      walk_at "rd"
      exact k2
    · rw [decide_eq_false hr] at k2
      exact k2

theorem ok_may_run {f : Addr} {fd : FuncData} (B : BT mg) (F : Fun K "may_run" "may_run" s_may_run f fd) (hm : mg "may_run" = some (.ref f)) : Cal P w K mg base "may_run" 1 ["segment", "ring"] (spMay mRun) := by
  refine ⟨f, fd, hm, F.kp, F.binds (ps := ["segment", "ring"]) fun _ _ _ _ _ _ us hl => match us, hl with | [_, _], _ => rfl, ?_⟩
  refine F.ok sc_may_run (fun vs H Q E h => ?_) (fun cdv A outer s H vs Q E hr h => ?_)
  · obtain ⟨v, x, e, rfl, _⟩ := h
    rfl
  · obtain ⟨v, ⟨r1, r2, r3, ri, ga, ws, rs⟩, e, rfl, hv, k⟩ := h
    refine ⟨_, (pss_cons (ps_asg (pe_slice (r := rSlT K) sl_tup (pv 0) po_none (po_some pe_int)) (pg_tup (by rfl) (pgs_cons (pg_name (i := 2) sc_may_run.nd rfl (Or.inl rfl)) (pgs_cons (pg_name (i := 3) sc_may_run.nd rfl (Or.inl rfl)) pgs_nil))))
 (pss_one (ps_ret (pe_and (pe_cmpR op_in_sign pe_str (pv 3) rfl) (pe_one (pe_chain op_le op_le (pe_ix (r := rIxT K) ix_tup (pv 2) pe_int (fun _ _ => rfl)) (pv 1) (pe_ix (r := rIxT K) ix_tup (pv 2) pe_int (fun _ _ => rfl)))))))), ?_⟩
    obtain ⟨p, xs, rfl, hp, ha⟩ := hv.tup_inv
    obtain ⟨x0, xr, rfl, h0, ha⟩ := ha.cons_inv
    obtain ⟨x1, xr, rfl, h1, ha⟩ := ha.cons_inv
    obtain ⟨x2, xr, rfl, h2, ha⟩ := ha.cons_inv
    have e1 := h1.str_inv; subst e1
    obtain ⟨pb, vb, rfl, hpb, hab⟩ := h0.tup_inv
    have eb := RpAll.ints_inv (ns := [r1, r2, r3]) hab
    subst eb
    replace hpb : H pb = some (.tup [.int r1, .int r2, .int r3]) := hpb
    walk_at "rds"
    refine ⟨2, rfl, ?_⟩
    refine rd_cut2 hp fun q hq => ?_
    have hpb2 := (same_upd (o := .tup [.ref pb, .str ri]) hq) _ _ hpb
    have k2 := k _ (same_upd (o := .tup [.ref pb, .str ri]) hq)
    unfold mRun has at k2
    dsimp only at k2
    walk_at "rd"
    refine ⟨120, ri, rfl, rfl, ?_⟩
    walk_at "rd"
    refine rd_ifd (fun hr => ?_) (fun hr => ?_)
    · rw [decide_eq_true hr] at k2
      walk_at "rd"
      refine rd_ifd (fun h => ?_) (fun h => ?_)
      · rw [decide_eq_true h] at k2
        walk_at "rd"
        exact k2
      · rw [decide_eq_false h] at k2
        exact k2
    · rw [decide_eq_false hr] at k2
      exact k2

theorem ok_may_call {f : Addr} {fd : FuncData} (B : BT mg) (F : Fun K "may_call" "may_call" s_may_call f fd) (hm : mg "may_call" = some (.ref f)) : Cal P w K mg base "may_call" 1 ["segment", "ring"] (spMay mCall) := by
  refine ⟨f, fd, hm, F.kp, F.binds (ps := ["segment", "ring"]) fun _ _ _ _ _ _ us hl => match us, hl with | [_, _], _ => rfl, ?_⟩
  refine F.ok sc_may_call (fun vs H Q E h => ?_) (fun cdv A outer s H vs Q E hr h => ?_)
  · obtain ⟨v, x, e, rfl, _⟩ := h
    rfl
  · obtain ⟨v, ⟨r1, r2, r3, ri, ga, ws, rs⟩, e, rfl, hv, k⟩ := h
    refine ⟨_, (pss_cons (ps_asg (pe_slice (r := rSlT K) sl_tup (pv 0) po_none (po_some pe_int)) (pg_tup (by rfl) (pgs_cons (pg_name (i := 2) sc_may_call.nd rfl (Or.inl rfl)) (pgs_cons (pg_name (i := 3) sc_may_call.nd rfl (Or.inl rfl)) pgs_nil))))
 (pss_one (ps_ret (pe_and (pe_cmpR op_in_sign pe_str (pv 3) rfl) (pe_one (pe_chain op_lt op_le (pe_ix (r := rIxT K) ix_tup (pv 2) pe_int (fun _ _ => rfl)) (pv 1) (pe_ix (r := rIxT K) ix_tup (pv 2) pe_int (fun _ _ => rfl)))))))), ?_⟩
    obtain ⟨p, xs, rfl, hp, ha⟩ := hv.tup_inv
    obtain ⟨x0, xr, rfl, h0, ha⟩ := ha.cons_inv
    obtain ⟨x1, xr, rfl, h1, ha⟩ := ha.cons_inv
    obtain ⟨x2, xr, rfl, h2, ha⟩ := ha.cons_inv
    have e1 := h1.str_inv; subst e1
    obtain ⟨pb, vb, rfl, hpb, hab⟩ := h0.tup_inv
    have eb := RpAll.ints_inv (ns := [r1, r2, r3]) hab
    subst eb
    replace hpb : H pb = some (.tup [.int r1, .int r2, .int r3]) := hpb
    walk_at "rds"
    refine ⟨2, rfl, ?_⟩
    refine rd_cut2 hp fun q hq => ?_
    have hpb2 := (same_upd (o := .tup [.ref pb, .str ri]) hq) _ _ hpb
    have k2 := k _ (same_upd (o := .tup [.ref pb, .str ri]) hq)
    unfold mCall has at k2
    dsimp only at k2
    walk_at "rd"
    refine ⟨120, ri, rfl, rfl, ?_⟩
    walk_at "rd"
    refine rd_ifd (fun hr => ?_) (fun hr => ?_)
    · rw [decide_eq_true hr] at k2
      walk_at "rd"
      refine rd_ifd (fun h => ?_) (fun h => ?_)
      · rw [decide_eq_true h] at k2
        walk_at "rd"
        exact k2
      · rw [decide_eq_false h] at k2
        exact k2
    · rw [decide_eq_false hr] at k2
      exact k2

def spWays : Sp := fun vs H Q _ => ∃ (v : V) (x : Sg) (r : Int), vs = [v, .int r] ∧ Rp H v x.d ∧ ∀ (u : V) (H' : Hp), Rp H' u (alD r x) → Same H H' → Q u H'
theorem ok_ways {f : Addr} {fd : FuncData} (B : BT mg) (F : Fun K "ways_in" "ways_in" s_ways_in f fd) (hm : mg "ways_in" = some (.ref f))
    (C_may_read : Cal P w K mg base "may_read" 1 ["segment", "ring"] (spMay mRead)) (C_may_write : Cal P w K mg base "may_write" 1 ["segment", "ring"] (spMay mWrite)) (C_may_run : Cal P w K mg base "may_run" 1 ["segment", "ring"] (spMay mRun)) (C_may_call : Cal P w K mg base "may_call" 1 ["segment", "ring"] (spMay mCall)) :
    Cal P w K mg base "ways_in" 2 ["segment", "ring"] spWays := by
  refine ⟨f, fd, hm, F.kp, F.binds (ps := ["segment", "ring"]) fun _ _ _ _ _ _ us hl => match us, hl with | [_, _], _ => rfl, ?_⟩
  refine F.ok sc_ways_in (fun vs H Q E h => ?_) (fun cdv A outer s H vs Q E hr h => ?_)
  · obtain ⟨v, x, r, rfl, _⟩ := h
    rfl
  · obtain ⟨y, z, r, rfl, ry, k⟩ := h
    refine ⟨_, (pss_one (ps_ret (pe_tup (pa_cons (pe_cal C_may_read (hr.mono (by omega)) rfl (pa_cons (pv 0) (pa_cons (pv 1) pa_nil))) (pa_cons (pe_cal C_may_write (hr.mono (by omega)) rfl (pa_cons (pv 0) (pa_cons (pv 1) pa_nil))) (pa_cons (pe_cal C_may_run (hr.mono (by omega)) rfl (pa_cons (pv 0) (pa_cons (pv 1) pa_nil))) (pa_cons (pe_cal C_may_call (hr.mono (by omega)) rfl (pa_cons (pv 0) (pa_cons (pv 1) pa_nil))) pa_nil))))))), ?_⟩
    walk_at "rds"
    refine ⟨y, z, r, rfl, ry, fun H4 s4 => ?_⟩
    replace ry := ry.keep (Tk.of s4)
    walk_at "rd"
    refine ⟨y, z, r, rfl, ry, fun H5 s5 => ?_⟩
    replace ry := ry.keep (Tk.of s5)
    walk_at "rd"
    refine ⟨y, z, r, rfl, ry, fun H6 s6 => ?_⟩
    replace ry := ry.keep (Tk.of s6)
    walk_at "rd"
    refine ⟨y, z, r, rfl, ry, fun H7 s7 => ?_⟩
    walk_at "rd"
    intro p hp
    refine k _ _ ?_ ((((s4.trans s5).trans s6).trans s7).trans (same_upd hp))
    exact Rp.tup upd_same (.cons (.bl _) (.cons (.bl _) (.cons (.bl _) (.cons (.bl _) .nil))))
theorem use_allowed {C NR x : Addr} {us : List V} {xs : List Sg} {b r : Int} {H : Hp} {Q : VK} {E : XK} (hM : MAt C H x us b) (ra : RpAll H us (xs.map Sg.d)) (hl : xs.length ≤ 900) (h0 : 0 ≤ r) (h8 : r < 8) (k : ∀ (L : Addr) (H' : Hp), H L = none → DL (fun a => H a = none) H' (.ref L) (.list (xs.map (alD r))) → Same H H' → Q (.ref L) H') : spAllowed C NR [.ref x, .int r] H Q E :=
  ⟨x, us, xs, b, r, rfl, hM, ra, hl, by
    have : r.natAbs < 2 ^ 10 := by omega
    exact Nat.lt_of_lt_of_le (PySem.Flt.log2_lt_of (by decide) this) (by decide), fun _ => k, fun hb => by rw [below_of h0 h8] at hb; cases hb⟩

end
end Rg

namespace Rg
open PySem PySem.Spec L2
local macro_rules | `(tactic| walk_at "rd1") => `(tactic| first
  | with_reducible refine rd_seq ?_
  | with_reducible refine rd_asg ?_
  | ((with_reducible show tVar _ _ _ _); refine rd_var rfl ?_)
  | with_reducible refine rd_c ?_
  | with_reducible refine rd_op ?_
  | with_reducible refine rd_I0 ?_
  | with_reducible refine rd_name ?_
  | with_reducible refine rd_ret ?_
  | with_reducible refine rd_ifs ?_
  | with_reducible refine rd_test ?_
  | with_reducible refine rd_tB ?_
  | with_reducible refine rd_bl ?_
  | with_reducible refine rd_drop ?_
  | with_reducible refine rd_nil ?_
  | with_reducible refine rd_cons ?_
  | with_reducible refine rd_call ?_
  | with_reducible refine rd_cb ?_
  | with_reducible refine rd_tup ?_
  | with_reducible refine rd_lst ?_
  | with_reducible refine rd_and ?_
  | with_reducible refine rd_or ?_
  | with_reducible refine rd_not ?_
  | with_reducible refine rd_andV ?_
  | with_reducible refine rd_orV ?_
  | with_reducible refine rd_notV ?_
  | with_reducible refine rd_chain ?_
  | with_reducible refine rd_un ?_
  | with_reducible refine rd_isN ?_
  | with_reducible refine rd_bm ?_
  | with_reducible refine rd_bm0 ?_
  | with_reducible refine rd_gsub ?_
  | with_reducible refine rd_sl ?_
  | with_reducible refine rd_gt ?_
  | with_reducible refine rd_yes ?_
  | with_reducible refine rd_gcons ?_
  | with_reducible refine rd_gnil ?_
  | with_reducible refine rd_part ?_
  | with_reducible refine rd_nopart ?_
  | ((with_reducible show gTup _ _ _ _ _ _ _); refine rd_gtup (by first | assumption | exact upd_same) rfl ?_)
  | ((with_reducible show gLst _ _ _ _ _ _ _); refine rd_glst (by first | assumption | exact upd_same) rfl ?_)
  | ((with_reducible show rIsi _ _ _ _); first | refine rd_isi (b := true) (.ty _) (.base (by first | exact .int _ | exact .str _ | exact .bl _ | exact .non | exact .tup (by assumption) | exact .lst (by assumption))) (kit_ty (by decide +kernel)) ?_ | refine rd_isi (b := false) (.ty _) (.base (by first | exact .int _ | exact .str _ | exact .bl _ | exact .non | exact .tup (by assumption) | exact .lst (by assumption))) (kit_ty (by decide +kernel)) ?_)
  | with_reducible refine rd_fld ?_
  | with_reducible refine rd_sfld ?_
  | with_reducible refine rd_meth ?_
  | with_reducible refine rd_make ?_
  | with_reducible refine rd_makeK ?_
  | with_reducible refine rd_U ?_
  | with_reducible refine rd_makeKS ?_
  | with_reducible refine rd_callN ?_
  | with_reducible refine rd_rs ?_
  | with_reducible refine rd_rf ?_
  | with_reducible refine rd_star ?_
  | with_reducible refine rd_callS ?_
  | with_reducible refine rd_for ?_
  | with_reducible refine rd_lc ?_
  | with_reducible refine rd_ilist ?_
  | with_reducible refine rd_itup ?_
  | with_reducible refine rd_irng ?_
  | with_reducible refine rd_izipS ?_
  | with_reducible refine rd_ienum ?_
  | with_reducible refine rd_ienT ?_
  | with_reducible refine rd_next ?_
  | with_reducible refine rd_eq rfl ?_
  | with_reducible refine rd_ne rfl ?_
  | with_reducible refine iteT ?_
  | with_reducible refine iteF ?_
  | with_reducible refine rd_ifnT ?_
  | with_reducible refine rd_ifnF ?_
  | ((with_reducible show rI (fun _ j => (0 : Int) < j) _ _ _ _ _); refine rd_mod (by omega) ?_)
  | with_reducible refine rd_new rfl ?_
  | ((with_reducible show rIxL _ _ (V.int 0) _ _); refine rd_ixL0 (by first | assumption | exact upd_same) ?_)
  | ((with_reducible show rIxL _ _ _ _ _); refine rd_ixL (by first | assumption | exact upd_same) rfl ?_)
  | ((with_reducible show rSetL _ _ _ _ _); refine rd_setL (by first | assumption | exact upd_same) rfl ?_)
  | ((with_reducible show rI CMul _ _ _ _ _); refine rd_mul (by first | exact Or.inl ⟨by omega, by omega⟩ | exact Or.inr ⟨by omega, by omega⟩) ?_)
  | ((with_reducible show tyV _ "list" _ _ ∧ _); refine rd_tyL (by first | assumption | exact upd_same) ?_)
  | ((with_reducible show rIxT _ _ (V.int 0) _ _); refine rd_ixT0 (by first | assumption | exact upd_same) ?_)
  | ((with_reducible show rIxT _ _ _ _ _); refine rd_ixT (by first | assumption | exact upd_same) rfl ?_))
local macro_rules | `(tactic| walk_at "rdn1") => `(tactic| first
  | with_reducible refine rd_seq ?_
  | with_reducible refine rd_asg ?_
  | ((with_reducible show tVar _ _ _ _); refine rd_var rfl ?_)
  | with_reducible refine rd_c ?_
  | with_reducible refine rd_op ?_
  | with_reducible refine rd_I0 ?_
  | with_reducible refine rd_name ?_
  | with_reducible refine rd_ret ?_
  | with_reducible refine rd_ifs ?_
  | with_reducible refine rd_test ?_
  | with_reducible refine rd_tB ?_
  | with_reducible refine rd_bl ?_
  | with_reducible refine rd_drop ?_
  | with_reducible refine rd_nil ?_
  | with_reducible refine rd_cons ?_
  | with_reducible refine rd_call ?_
  | with_reducible refine rd_cb ?_
  | with_reducible refine rd_tup ?_
  | with_reducible refine rd_lst ?_
  | with_reducible refine rd_and ?_
  | with_reducible refine rd_or ?_
  | with_reducible refine rd_not ?_
  | with_reducible refine rd_notV ?_
  | with_reducible refine rd_chain ?_
  | with_reducible refine rd_un ?_
  | with_reducible refine rd_isN ?_
  | with_reducible refine rd_bm ?_
  | with_reducible refine rd_bm0 ?_
  | with_reducible refine rd_gsub ?_
  | with_reducible refine rd_sl ?_
  | with_reducible refine rd_gt ?_
  | with_reducible refine rd_yes ?_
  | with_reducible refine rd_gcons ?_
  | with_reducible refine rd_gnil ?_
  | with_reducible refine rd_part ?_
  | with_reducible refine rd_nopart ?_
  | ((with_reducible show gTup _ _ _ _ _ _ _); refine rd_gtup (by first | assumption | exact upd_same) rfl ?_)
  | ((with_reducible show gLst _ _ _ _ _ _ _); refine rd_glst (by first | assumption | exact upd_same) rfl ?_)
  | ((with_reducible show rIsi _ _ _ _); first | refine rd_isi (b := true) (.ty _) (.base (by first | exact .int _ | exact .str _ | exact .bl _ | exact .non | exact .tup (by assumption) | exact .lst (by assumption))) (kit_ty (by decide +kernel)) ?_ | refine rd_isi (b := false) (.ty _) (.base (by first | exact .int _ | exact .str _ | exact .bl _ | exact .non | exact .tup (by assumption) | exact .lst (by assumption))) (kit_ty (by decide +kernel)) ?_)
  | with_reducible refine rd_fld ?_
  | with_reducible refine rd_sfld ?_
  | with_reducible refine rd_meth ?_
  | with_reducible refine rd_make ?_
  | with_reducible refine rd_makeK ?_
  | with_reducible refine rd_U ?_
  | with_reducible refine rd_makeKS ?_
  | with_reducible refine rd_callN ?_
  | with_reducible refine rd_rs ?_
  | with_reducible refine rd_rf ?_
  | with_reducible refine rd_star ?_
  | with_reducible refine rd_callS ?_
  | with_reducible refine rd_for ?_
  | with_reducible refine rd_lc ?_
  | with_reducible refine rd_ilist ?_
  | with_reducible refine rd_itup ?_
  | with_reducible refine rd_irng ?_
  | with_reducible refine rd_izipS ?_
  | with_reducible refine rd_ienum ?_
  | with_reducible refine rd_ienT ?_
  | with_reducible refine rd_next ?_
  | with_reducible refine rd_eq rfl ?_
  | with_reducible refine rd_ne rfl ?_
  | with_reducible refine iteT ?_
  | with_reducible refine iteF ?_
  | with_reducible refine rd_ifnT ?_
  | with_reducible refine rd_ifnF ?_
  | ((with_reducible show rI (fun _ j => (0 : Int) < j) _ _ _ _ _); refine rd_mod (by omega) ?_)
  | with_reducible refine rd_new rfl ?_
  | ((with_reducible show rIxL _ _ (V.int 0) _ _); refine rd_ixL0 (by first | assumption | exact upd_same) ?_)
  | ((with_reducible show rIxL _ _ _ _ _); refine rd_ixL (by first | assumption | exact upd_same) rfl ?_)
  | ((with_reducible show rSetL _ _ _ _ _); refine rd_setL (by first | assumption | exact upd_same) rfl ?_)
  | ((with_reducible show rI CMul _ _ _ _ _); refine rd_mul (by first | exact Or.inl ⟨by omega, by omega⟩ | exact Or.inr ⟨by omega, by omega⟩) ?_)
  | ((with_reducible show tyV _ "list" _ _ ∧ _); refine rd_tyL (by first | assumption | exact upd_same) ?_)
  | ((with_reducible show rIxT _ _ (V.int 0) _ _); refine rd_ixT0 (by first | assumption | exact upd_same) ?_)
  | ((with_reducible show rIxT _ _ _ _ _); refine rd_ixT (by first | assumption | exact upd_same) rfl ?_))
local macro_rules | `(tactic| walk_at "rd") => `(tactic| (repeat (first | walk_at "rd1" | dsimp only)))
local macro_rules | `(tactic| walk_at "rds") => `(tactic| (dsimp only [cxOf, Cx.nox, Cx.wish, Cx.blk, L2.start]; walk_at "rd"))
local macro_rules | `(tactic| walk_at "rdn") => `(tactic| (repeat (first | walk_at "rdn1" | dsimp only)))
section
variable {P : Program} {w : World} {K : PySem.W.Frag} {mg : Str → Option Value} {base : Heap}

/-- the brackets, from the least on -/
def rows3 (a b : Nat) : Nat → List (List Int)
  | 0 => []
  | k + 1 => rows3 a b k ++ [[(a : Int), (b : Int), ((b + k : Nat) : Int)]]
def rows2 (a : Nat) : Nat → List (List Int)
  | 0 => []
  | j + 1 => rows2 a j ++ rows3 a (a + j) (8 - (a + j))
def rows1 : Nat → List (List Int)
  | 0 => []
  | i + 1 => rows1 i ++ rows2 i (8 - i)
def allB : List (List Int) := rows1 8
theorem rows3_len (a b : Nat) : ∀ k, (rows3 a b k).length = k
  | 0 => rfl
  | k + 1 => by show (rows3 a b k ++ _).length = _; rw [List.length_append, rows3_len a b k]; rfl
theorem rows2_len (a : Nat) : ∀ j, (rows2 a j).length ≤ 8 * j
  | 0 => Nat.le_refl _
  | j + 1 => by
    show (rows2 a j ++ _).length ≤ _
    rw [List.length_append, rows3_len]
    have := rows2_len a j
    omega
theorem rows1_len : ∀ i, (rows1 i).length ≤ 64 * i
  | 0 => Nat.le_refl _
  | i + 1 => by
    show (rows1 i ++ _).length ≤ _
    rw [List.length_append]
    have h1 := rows1_len i
    have h2 := rows2_len i (8 - i)
    omega
def triD (l : List Int) : PyData := .tuple (l.map PyData.int)
def spBrk : Sp := fun vs H Q _ => vs = [] ∧ ∀ (D : Addr) (us : List V) (H' : Hp), H D = none → H' D = some (.lst us) → RpAll H' us (allB.map triD) → Same H H' → Q (.ref D) H'
theorem ok_brk {f : Addr} {fd : FuncData} (B : BT mg) (F : Fun K "all_brackets" "all_brackets" s_all_brackets f fd) (hm : mg "all_brackets" = some (.ref f)) (G_RINGS : GI mg "RINGS" 8) : Cal P w K mg base "all_brackets" 1 [] spBrk := by
  refine ⟨f, fd, hm, F.kp, F.binds (ps := []) fun _ _ _ _ _ _ us hl => match us, hl with | [], _ => rfl, ?_⟩
  refine F.ok sc_all_brackets (fun vs H Q E h => ?_) (fun cdv A outer s H vs Q E hr h => ?_)
  · obtain ⟨rfl, _⟩ := h
    rfl
  · obtain ⟨rfl, k⟩ := h
    refine ⟨_, (pss_one (ps_ret (pe_lc3 (own := [("r1", 0), ("r2", 1), ("r3", 2)]) (vs1 := [1, 2]) (vs2 := [2]) (tt := tYes) (tt1 := tYes) (tt2 := tYes) (g := gName 0) (g1 := gName 1) (g2 := gName 2) rfl sc_all_brackets.nd (pi_range1 rfl B.g_range (pa_cons (pe_gi G_RINGS rfl) pa_nil)) (blkOk_by (own := [("r1", 0), ("r2", 1), ("r3", 2)]) (N := ["r1", "r2", "r3"]) (sc := defScope s_all_brackets) (by decide +kernel)) (by decide) (by decide) (fun _ _ _ _ _ => (pg_name (i := 0) sc_all_brackets.nd rfl (by first | exact Or.inl rfl | exact Or.inr rfl))) (fun _ _ _ _ _ => pts_nil) (fun _ _ _ _ _ => (pi_range2 rfl B.g_range (pa_cons (pv 0) (pa_cons (pe_gi G_RINGS rfl) pa_nil)))) (fun _ _ _ _ _ => (pg_name (i := 1) sc_all_brackets.nd rfl (by first | exact Or.inl rfl | exact Or.inr rfl))) (fun _ _ _ _ _ => pts_nil) (fun _ _ _ _ _ => (pi_range2 rfl B.g_range (pa_cons (pv 1) (pa_cons (pe_gi G_RINGS rfl) pa_nil)))) (fun _ _ _ _ _ => (pg_name (i := 2) sc_all_brackets.nd rfl (by first | exact Or.inl rfl | exact Or.inr rfl))) (fun _ _ _ _ _ => pts_nil) (fun _ _ _ _ _ => (pe_tup (pa_cons (pv 0) (pa_cons (pv 1) (pa_cons (pv 2) pa_nil)))))))), ?_⟩
    walk_at "rds"
    refine rd_lcN ?_
    walk_at "rd"
    refine ⟨8, rfl, by decide, by decide, fun D hD => ?_⟩
    refine inn_it (walk_range (n := 8)) (fun i H' => ∃ us, H' D = some (.lst us) ∧ RpAll H' us ((rows1 i).map triD) ∧ Same H H') ⟨[], upd_same, .nil, same_upd hD⟩ (fun _ _ _ _ => trivial) ?_ ?_
    · rintro i y Ha Hb hi ⟨us, hus, rus, sa⟩ ⟨rfl, rfl⟩
      walk_at "rd"
      refine ⟨rfl, ?_⟩
      walk_at "rd"
      refine rd_inn (rd_irng2 ?_)
      walk_at "rd"
      refine ⟨_, _, rfl, ⟨by omega, by omega, by decide, by decide⟩, ?_⟩
      have en : (8 - (0 + (i : Int))).toNat = 8 - i := by omega
      rw [en]
      refine inn_it (walk_range (n := 8 - i)) (fun j H' => ∃ us, H' D = some (.lst us) ∧ RpAll H' us ((rows1 i ++ rows2 i j).map triD) ∧ Same H H') ⟨us, hus, by rw [show rows2 i 0 = [] from rfl, List.append_nil]; exact rus, sa⟩ (fun _ _ _ _ => trivial) ?_ ?_
      · rintro j y2 Hc Hd hj ⟨us2, hus2, rus2, sc⟩ ⟨rfl, rfl⟩
        walk_at "rd"
        refine ⟨rfl, ?_⟩
        walk_at "rd"
        refine rd_inn (rd_irng2 ?_)
        walk_at "rd"
        refine ⟨_, _, rfl, ⟨by omega, by omega, by decide, by decide⟩, ?_⟩
        have en2 : (8 - (0 + (i : Int) + (j : Int))).toNat = 8 - (i + j) := by omega
        rw [en2]
        refine inn_it (walk_range (n := 8 - (i + j))) (fun k H' => ∃ us, H' D = some (.lst us) ∧ RpAll H' us ((rows1 i ++ rows2 i j ++ rows3 i (i + j) k).map triD) ∧ Same H H') ⟨us2, hus2, by rw [show rows3 i (i + j) 0 = [] from rfl, List.append_nil]; exact rus2, sc⟩ (fun _ _ _ _ => trivial) ?_ ?_
        · rintro k3 y3 He Hf hk ⟨us3, hus3, rus3, se⟩ ⟨rfl, rfl⟩
          walk_at "rd"
          refine ⟨rfl, ?_⟩
          walk_at "rd"
          refine rd_inn0 ?_
          walk_at "rd"
          intro q hq
          have l3 : us3.length ≤ 1000 := by
            rw [rus3.length, List.length_map, List.length_append, List.length_append, rows3_len]
            have h1 := rows1_len i
            have h2 := rows2_len i j
            omega
          have sq := same_upd (o := .tup [.int (0 + (i : Int)), .int (0 + (i : Int) + (j : Int)), .int (0 + (i : Int) + (j : Int) + (k3 : Int))]) hq
          have eq : upd Hf q (.tup [.int (0 + (i : Int)), .int (0 + (i : Int) + (j : Int)), .int (0 + (i : Int) + (j : Int) + (k3 : Int))]) q = some (.tup [.int (0 + (i : Int)), .int (0 + (i : Int) + (j : Int)), .int (0 + (i : Int) + (j : Int) + (k3 : Int))]) := upd_same
          generalize upd Hf q (.tup [.int (0 + (i : Int)), .int (0 + (i : Int) + (j : Int)), .int (0 + (i : Int) + (j : Int) + (k3 : Int))]) = Hg at sq eq
          have hug := sq _ _ hus3
          have tk : Tk Hg (upd Hg D (.lst (us3 ++ [.ref q]))) := Tk.lst hug
          refine ⟨us3, hug, small1000 l3, us3 ++ [.ref q], upd_same, ?_, fun c o e => by rw [upd_ne (ne_of_none e hD)]; exact sq _ _ (se _ _ e)⟩
          rw [show rows3 i (i + j) (k3 + 1) = rows3 i (i + j) k3 ++ [[(i : Int), ((i + j : Nat) : Int), ((i + j + k3 : Nat) : Int)]] from rfl, ← List.append_assoc, List.map_append]
          refine ((rus3.keep (Tk.of sq)).keep tk).append (.cons ?_ .nil)
          have ed : triD [(i : Int), ((i + j : Nat) : Int), ((i + j + k3 : Nat) : Int)] = .tuple [.int (0 + (i : Int)), .int (0 + (i : Int) + (j : Int)), .int (0 + (i : Int) + (j : Int) + (k3 : Int))] := by
            unfold triD
            simp
          rw [ed]
          exact (Rp.tup eq (.cons (.int _) (.cons (.int _) (.cons (.int _) .nil)))).keep tk
        · rintro He ⟨us3, hus3, rus3, se⟩
          exact ⟨us3, hus3, by rw [show rows2 i (j + 1) = rows2 i j ++ rows3 i (i + j) (8 - (i + j)) from rfl, ← List.append_assoc]; exact rus3, se⟩
      · rintro Hc ⟨us2, hus2, rus2, sc⟩
        exact ⟨us2, hus2, rus2, sc⟩
    · rintro Ha ⟨us, hus, rus, sa⟩
      exact k D us Ha hD hus rus sa

end
end Rg

namespace Rg
open PySem PySem.Spec L2
local macro_rules | `(tactic| walk_at "rd1") => `(tactic| first
  | with_reducible refine rd_seq ?_
  | with_reducible refine rd_asg ?_
  | ((with_reducible show tVar _ _ _ _); refine rd_var rfl ?_)
  | with_reducible refine rd_c ?_
  | with_reducible refine rd_op ?_
  | with_reducible refine rd_I0 ?_
  | with_reducible refine rd_name ?_
  | with_reducible refine rd_ret ?_
  | with_reducible refine rd_ifs ?_
  | with_reducible refine rd_test ?_
  | with_reducible refine rd_tB ?_
  | with_reducible refine rd_bl ?_
  | with_reducible refine rd_drop ?_
  | with_reducible refine rd_nil ?_
  | with_reducible refine rd_cons ?_
  | with_reducible refine rd_call ?_
  | with_reducible refine rd_cb ?_
  | with_reducible refine rd_tup ?_
  | with_reducible refine rd_lst ?_
  | with_reducible refine rd_and ?_
  | with_reducible refine rd_or ?_
  | with_reducible refine rd_not ?_
  | with_reducible refine rd_andV ?_
  | with_reducible refine rd_orV ?_
  | with_reducible refine rd_notV ?_
  | with_reducible refine rd_chain ?_
  | with_reducible refine rd_un ?_
  | with_reducible refine rd_isN ?_
  | with_reducible refine rd_bm ?_
  | with_reducible refine rd_bm0 ?_
  | with_reducible refine rd_gsub ?_
  | with_reducible refine rd_sl ?_
  | with_reducible refine rd_gt ?_
  | with_reducible refine rd_yes ?_
  | with_reducible refine rd_gcons ?_
  | with_reducible refine rd_gnil ?_
  | with_reducible refine rd_part ?_
  | with_reducible refine rd_nopart ?_
  | ((with_reducible show gTup _ _ _ _ _ _ _); refine rd_gtup (by first | assumption | exact upd_same) rfl ?_)
  | ((with_reducible show gLst _ _ _ _ _ _ _); refine rd_glst (by first | assumption | exact upd_same) rfl ?_)
  | ((with_reducible show rIsi _ _ _ _); first | refine rd_isi (b := true) (.ty _) (.base (by first | exact .int _ | exact .str _ | exact .bl _ | exact .non | exact .tup (by assumption) | exact .lst (by assumption))) (kit_ty (by decide +kernel)) ?_ | refine rd_isi (b := false) (.ty _) (.base (by first | exact .int _ | exact .str _ | exact .bl _ | exact .non | exact .tup (by assumption) | exact .lst (by assumption))) (kit_ty (by decide +kernel)) ?_)
  | with_reducible refine rd_fld ?_
  | with_reducible refine rd_sfld ?_
  | with_reducible refine rd_meth ?_
  | with_reducible refine rd_make ?_
  | with_reducible refine rd_makeK ?_
  | with_reducible refine rd_U ?_
  | with_reducible refine rd_makeKS ?_
  | with_reducible refine rd_callN ?_
  | with_reducible refine rd_rs ?_
  | with_reducible refine rd_rf ?_
  | with_reducible refine rd_star ?_
  | with_reducible refine rd_callS ?_
  | with_reducible refine rd_for ?_
  | with_reducible refine rd_lc ?_
  | with_reducible refine rd_ilist ?_
  | with_reducible refine rd_itup ?_
  | with_reducible refine rd_irng ?_
  | with_reducible refine rd_izipS ?_
  | with_reducible refine rd_ienum ?_
  | with_reducible refine rd_ienT ?_
  | with_reducible refine rd_next ?_
  | with_reducible refine rd_eq rfl ?_
  | with_reducible refine rd_ne rfl ?_
  | with_reducible refine iteT ?_
  | with_reducible refine iteF ?_
  | with_reducible refine rd_ifnT ?_
  | with_reducible refine rd_ifnF ?_
  | ((with_reducible show rI (fun _ j => (0 : Int) < j) _ _ _ _ _); refine rd_mod (by omega) ?_)
  | with_reducible refine rd_new rfl ?_
  | ((with_reducible show rIxL _ _ (V.int 0) _ _); refine rd_ixL0 (by first | assumption | exact upd_same) ?_)
  | ((with_reducible show rIxL _ _ _ _ _); refine rd_ixL (by first | assumption | exact upd_same) rfl ?_)
  | ((with_reducible show rSetL _ _ _ _ _); refine rd_setL (by first | assumption | exact upd_same) rfl ?_)
  | ((with_reducible show rI CMul _ _ _ _ _); refine rd_mul (by first | exact Or.inl ⟨by omega, by omega⟩ | exact Or.inr ⟨by omega, by omega⟩) ?_)
  | ((with_reducible show tyV _ "list" _ _ ∧ _); refine rd_tyL (by first | assumption | exact upd_same) ?_)
  | ((with_reducible show rIxT _ _ (V.int 0) _ _); refine rd_ixT0 (by first | assumption | exact upd_same) ?_)
  | ((with_reducible show rIxT _ _ _ _ _); refine rd_ixT (by first | assumption | exact upd_same) rfl ?_))
local macro_rules | `(tactic| walk_at "rdn1") => `(tactic| first
  | with_reducible refine rd_seq ?_
  | with_reducible refine rd_asg ?_
  | ((with_reducible show tVar _ _ _ _); refine rd_var rfl ?_)
  | with_reducible refine rd_c ?_
  | with_reducible refine rd_op ?_
  | with_reducible refine rd_I0 ?_
  | with_reducible refine rd_name ?_
  | with_reducible refine rd_ret ?_
  | with_reducible refine rd_ifs ?_
  | with_reducible refine rd_test ?_
  | with_reducible refine rd_tB ?_
  | with_reducible refine rd_bl ?_
  | with_reducible refine rd_drop ?_
  | with_reducible refine rd_nil ?_
  | with_reducible refine rd_cons ?_
  | with_reducible refine rd_call ?_
  | with_reducible refine rd_cb ?_
  | with_reducible refine rd_tup ?_
  | with_reducible refine rd_lst ?_
  | with_reducible refine rd_and ?_
  | with_reducible refine rd_or ?_
  | with_reducible refine rd_not ?_
  | with_reducible refine rd_notV ?_
  | with_reducible refine rd_chain ?_
  | with_reducible refine rd_un ?_
  | with_reducible refine rd_isN ?_
  | with_reducible refine rd_bm ?_
  | with_reducible refine rd_bm0 ?_
  | with_reducible refine rd_gsub ?_
  | with_reducible refine rd_sl ?_
  | with_reducible refine rd_gt ?_
  | with_reducible refine rd_yes ?_
  | with_reducible refine rd_gcons ?_
  | with_reducible refine rd_gnil ?_
  | with_reducible refine rd_part ?_
  | with_reducible refine rd_nopart ?_
  | ((with_reducible show gTup _ _ _ _ _ _ _); refine rd_gtup (by first | assumption | exact upd_same) rfl ?_)
  | ((with_reducible show gLst _ _ _ _ _ _ _); refine rd_glst (by first | assumption | exact upd_same) rfl ?_)
  | ((with_reducible show rIsi _ _ _ _); first | refine rd_isi (b := true) (.ty _) (.base (by first | exact .int _ | exact .str _ | exact .bl _ | exact .non | exact .tup (by assumption) | exact .lst (by assumption))) (kit_ty (by decide +kernel)) ?_ | refine rd_isi (b := false) (.ty _) (.base (by first | exact .int _ | exact .str _ | exact .bl _ | exact .non | exact .tup (by assumption) | exact .lst (by assumption))) (kit_ty (by decide +kernel)) ?_)
  | with_reducible refine rd_fld ?_
  | with_reducible refine rd_sfld ?_
  | with_reducible refine rd_meth ?_
  | with_reducible refine rd_make ?_
  | with_reducible refine rd_makeK ?_
  | with_reducible refine rd_U ?_
  | with_reducible refine rd_makeKS ?_
  | with_reducible refine rd_callN ?_
  | with_reducible refine rd_rs ?_
  | with_reducible refine rd_rf ?_
  | with_reducible refine rd_star ?_
  | with_reducible refine rd_callS ?_
  | with_reducible refine rd_for ?_
  | with_reducible refine rd_lc ?_
  | with_reducible refine rd_ilist ?_
  | with_reducible refine rd_itup ?_
  | with_reducible refine rd_irng ?_
  | with_reducible refine rd_izipS ?_
  | with_reducible refine rd_ienum ?_
  | with_reducible refine rd_ienT ?_
  | with_reducible refine rd_next ?_
  | with_reducible refine rd_eq rfl ?_
  | with_reducible refine rd_ne rfl ?_
  | with_reducible refine iteT ?_
  | with_reducible refine iteF ?_
  | with_reducible refine rd_ifnT ?_
  | with_reducible refine rd_ifnF ?_
  | ((with_reducible show rI (fun _ j => (0 : Int) < j) _ _ _ _ _); refine rd_mod (by omega) ?_)
  | with_reducible refine rd_new rfl ?_
  | ((with_reducible show rIxL _ _ (V.int 0) _ _); refine rd_ixL0 (by first | assumption | exact upd_same) ?_)
  | ((with_reducible show rIxL _ _ _ _ _); refine rd_ixL (by first | assumption | exact upd_same) rfl ?_)
  | ((with_reducible show rSetL _ _ _ _ _); refine rd_setL (by first | assumption | exact upd_same) rfl ?_)
  | ((with_reducible show rI CMul _ _ _ _ _); refine rd_mul (by first | exact Or.inl ⟨by omega, by omega⟩ | exact Or.inr ⟨by omega, by omega⟩) ?_)
  | ((with_reducible show tyV _ "list" _ _ ∧ _); refine rd_tyL (by first | assumption | exact upd_same) ?_)
  | ((with_reducible show rIxT _ _ (V.int 0) _ _); refine rd_ixT0 (by first | assumption | exact upd_same) ?_)
  | ((with_reducible show rIxT _ _ _ _ _); refine rd_ixT (by first | assumption | exact upd_same) rfl ?_))
local macro_rules | `(tactic| walk_at "rd") => `(tactic| (repeat (first | walk_at "rd1" | dsimp only)))
local macro_rules | `(tactic| walk_at "rds") => `(tactic| (dsimp only [cxOf, Cx.nox, Cx.wish, Cx.blk, L2.start]; walk_at "rd"))
local macro_rules | `(tactic| walk_at "rdn") => `(tactic| (repeat (first | walk_at "rdn1" | dsimp only)))
section
variable {P : Program} {w : World} {K : PySem.W.Frag} {mg : Str → Option Value} {base : Heap}

theorem rd_tif {tc : TT} {ta tb : TE} {σ : L2.St} {H : Hp} {Q : VK} (h : tc σ H fun c H1 => if c = true then ta σ H1 Q else tb σ H1 Q) : tIf tc ta tb σ H Q := h

end
end Rg

namespace Rg
open PySem PySem.Spec L2
local macro_rules | `(tactic| walk_at "rd1") => `(tactic| first
  | with_reducible refine rd_seq ?_
  | with_reducible refine rd_asg ?_
  | ((with_reducible show tVar _ _ _ _); refine rd_var rfl ?_)
  | with_reducible refine rd_c ?_
  | with_reducible refine rd_op ?_
  | with_reducible refine rd_I0 ?_
  | with_reducible refine rd_name ?_
  | with_reducible refine rd_ret ?_
  | with_reducible refine rd_ifs ?_
  | with_reducible refine rd_test ?_
  | with_reducible refine rd_tB ?_
  | with_reducible refine rd_bl ?_
  | with_reducible refine rd_drop ?_
  | with_reducible refine rd_nil ?_
  | with_reducible refine rd_cons ?_
  | with_reducible refine rd_call ?_
  | with_reducible refine rd_cb ?_
  | with_reducible refine rd_tup ?_
  | with_reducible refine rd_lst ?_
  | with_reducible refine rd_and ?_
  | with_reducible refine rd_or ?_
  | with_reducible refine rd_not ?_
  | with_reducible refine rd_andV ?_
  | with_reducible refine rd_orV ?_
  | with_reducible refine rd_notV ?_
  | with_reducible refine rd_chain ?_
  | with_reducible refine rd_un ?_
  | with_reducible refine rd_isN ?_
  | with_reducible refine rd_bm ?_
  | with_reducible refine rd_bm0 ?_
  | with_reducible refine rd_gsub ?_
  | with_reducible refine rd_sl ?_
  | with_reducible refine rd_gt ?_
  | with_reducible refine rd_yes ?_
  | with_reducible refine rd_gcons ?_
  | with_reducible refine rd_gnil ?_
  | with_reducible refine rd_part ?_
  | with_reducible refine rd_nopart ?_
  | ((with_reducible show gTup _ _ _ _ _ _ _); refine rd_gtup (by first | assumption | exact upd_same) rfl ?_)
  | ((with_reducible show gLst _ _ _ _ _ _ _); refine rd_glst (by first | assumption | exact upd_same) rfl ?_)
  | ((with_reducible show rIsi _ _ _ _); first | refine rd_isi (b := true) (.ty _) (.base (by first | exact .int _ | exact .str _ | exact .bl _ | exact .non | exact .tup (by assumption) | exact .lst (by assumption))) (kit_ty (by decide +kernel)) ?_ | refine rd_isi (b := false) (.ty _) (.base (by first | exact .int _ | exact .str _ | exact .bl _ | exact .non | exact .tup (by assumption) | exact .lst (by assumption))) (kit_ty (by decide +kernel)) ?_)
  | with_reducible refine rd_fld ?_
  | with_reducible refine rd_sfld ?_
  | with_reducible refine rd_meth ?_
  | with_reducible refine rd_make ?_
  | with_reducible refine rd_makeK ?_
  | with_reducible refine rd_U ?_
  | with_reducible refine rd_makeKS ?_
  | with_reducible refine rd_callN ?_
  | with_reducible refine rd_rs ?_
  | with_reducible refine rd_rf ?_
  | with_reducible refine rd_star ?_
  | with_reducible refine rd_callS ?_
  | with_reducible refine rd_for ?_
  | with_reducible refine rd_lc ?_
  | with_reducible refine rd_ilist ?_
  | with_reducible refine rd_itup ?_
  | with_reducible refine rd_irng ?_
  | with_reducible refine rd_izipS ?_
  | with_reducible refine rd_ienum ?_
  | with_reducible refine rd_ienT ?_
  | with_reducible refine rd_next ?_
  | with_reducible refine rd_eq rfl ?_
  | with_reducible refine rd_ne rfl ?_
  | with_reducible refine iteT ?_
  | with_reducible refine iteF ?_
  | with_reducible refine rd_ifnT ?_
  | with_reducible refine rd_ifnF ?_
  | ((with_reducible show rI (fun _ j => (0 : Int) < j) _ _ _ _ _); refine rd_mod (by omega) ?_)
  | with_reducible refine rd_new rfl ?_
  | ((with_reducible show rIxL _ _ (V.int 0) _ _); refine rd_ixL0 (by first | assumption | exact upd_same) ?_)
  | ((with_reducible show rIxL _ _ _ _ _); refine rd_ixL (by first | assumption | exact upd_same) rfl ?_)
  | ((with_reducible show rSetL _ _ _ _ _); refine rd_setL (by first | assumption | exact upd_same) rfl ?_)
  | ((with_reducible show rI CMul _ _ _ _ _); refine rd_mul (by first | exact Or.inl ⟨by omega, by omega⟩ | exact Or.inr ⟨by omega, by omega⟩) ?_)
  | ((with_reducible show tyV _ "list" _ _ ∧ _); refine rd_tyL (by first | assumption | exact upd_same) ?_)
  | ((with_reducible show rIxT _ _ (V.int 0) _ _); refine rd_ixT0 (by first | assumption | exact upd_same) ?_)
  | ((with_reducible show rIxT _ _ _ _ _); refine rd_ixT (by first | assumption | exact upd_same) rfl ?_))
local macro_rules | `(tactic| walk_at "rdn1") => `(tactic| first
  | with_reducible refine rd_seq ?_
  | with_reducible refine rd_asg ?_
  | ((with_reducible show tVar _ _ _ _); refine rd_var rfl ?_)
  | with_reducible refine rd_c ?_
  | with_reducible refine rd_op ?_
  | with_reducible refine rd_I0 ?_
  | with_reducible refine rd_name ?_
  | with_reducible refine rd_ret ?_
  | with_reducible refine rd_ifs ?_
  | with_reducible refine rd_test ?_
  | with_reducible refine rd_tB ?_
  | with_reducible refine rd_bl ?_
  | with_reducible refine rd_drop ?_
  | with_reducible refine rd_nil ?_
  | with_reducible refine rd_cons ?_
  | with_reducible refine rd_call ?_
  | with_reducible refine rd_cb ?_
  | with_reducible refine rd_tup ?_
  | with_reducible refine rd_lst ?_
  | with_reducible refine rd_and ?_
  | with_reducible refine rd_or ?_
  | with_reducible refine rd_not ?_
  | with_reducible refine rd_notV ?_
  | with_reducible refine rd_chain ?_
  | with_reducible refine rd_un ?_
  | with_reducible refine rd_isN ?_
  | with_reducible refine rd_bm ?_
  | with_reducible refine rd_bm0 ?_
  | with_reducible refine rd_gsub ?_
  | with_reducible refine rd_sl ?_
  | with_reducible refine rd_gt ?_
  | with_reducible refine rd_yes ?_
  | with_reducible refine rd_gcons ?_
  | with_reducible refine rd_gnil ?_
  | with_reducible refine rd_part ?_
  | with_reducible refine rd_nopart ?_
  | ((with_reducible show gTup _ _ _ _ _ _ _); refine rd_gtup (by first | assumption | exact upd_same) rfl ?_)
  | ((with_reducible show gLst _ _ _ _ _ _ _); refine rd_glst (by first | assumption | exact upd_same) rfl ?_)
  | ((with_reducible show rIsi _ _ _ _); first | refine rd_isi (b := true) (.ty _) (.base (by first | exact .int _ | exact .str _ | exact .bl _ | exact .non | exact .tup (by assumption) | exact .lst (by assumption))) (kit_ty (by decide +kernel)) ?_ | refine rd_isi (b := false) (.ty _) (.base (by first | exact .int _ | exact .str _ | exact .bl _ | exact .non | exact .tup (by assumption) | exact .lst (by assumption))) (kit_ty (by decide +kernel)) ?_)
  | with_reducible refine rd_fld ?_
  | with_reducible refine rd_sfld ?_
  | with_reducible refine rd_meth ?_
  | with_reducible refine rd_make ?_
  | with_reducible refine rd_makeK ?_
  | with_reducible refine rd_U ?_
  | with_reducible refine rd_makeKS ?_
  | with_reducible refine rd_callN ?_
  | with_reducible refine rd_rs ?_
  | with_reducible refine rd_rf ?_
  | with_reducible refine rd_star ?_
  | with_reducible refine rd_callS ?_
  | with_reducible refine rd_for ?_
  | with_reducible refine rd_lc ?_
  | with_reducible refine rd_ilist ?_
  | with_reducible refine rd_itup ?_
  | with_reducible refine rd_irng ?_
  | with_reducible refine rd_izipS ?_
  | with_reducible refine rd_ienum ?_
  | with_reducible refine rd_ienT ?_
  | with_reducible refine rd_next ?_
  | with_reducible refine rd_eq rfl ?_
  | with_reducible refine rd_ne rfl ?_
  | with_reducible refine iteT ?_
  | with_reducible refine iteF ?_
  | with_reducible refine rd_ifnT ?_
  | with_reducible refine rd_ifnF ?_
  | ((with_reducible show rI (fun _ j => (0 : Int) < j) _ _ _ _ _); refine rd_mod (by omega) ?_)
  | with_reducible refine rd_new rfl ?_
  | ((with_reducible show rIxL _ _ (V.int 0) _ _); refine rd_ixL0 (by first | assumption | exact upd_same) ?_)
  | ((with_reducible show rIxL _ _ _ _ _); refine rd_ixL (by first | assumption | exact upd_same) rfl ?_)
  | ((with_reducible show rSetL _ _ _ _ _); refine rd_setL (by first | assumption | exact upd_same) rfl ?_)
  | ((with_reducible show rI CMul _ _ _ _ _); refine rd_mul (by first | exact Or.inl ⟨by omega, by omega⟩ | exact Or.inr ⟨by omega, by omega⟩) ?_)
  | ((with_reducible show tyV _ "list" _ _ ∧ _); refine rd_tyL (by first | assumption | exact upd_same) ?_)
  | ((with_reducible show rIxT _ _ (V.int 0) _ _); refine rd_ixT0 (by first | assumption | exact upd_same) ?_)
  | ((with_reducible show rIxT _ _ _ _ _); refine rd_ixT (by first | assumption | exact upd_same) rfl ?_))
local macro_rules | `(tactic| walk_at "rd") => `(tactic| (repeat (first | walk_at "rd1" | dsimp only)))
local macro_rules | `(tactic| walk_at "rds") => `(tactic| (dsimp only [cxOf, Cx.nox, Cx.wish, Cx.blk, L2.start]; walk_at "rd"))
local macro_rules | `(tactic| walk_at "rdn") => `(tactic| (repeat (first | walk_at "rdn1" | dsimp only)))
section
variable {P : Program} {w : World} {K : PySem.W.Frag} {mg : Str → Option Value} {base : Heap}

def sgO (l : List Int) (ri : Str) : Sg := ⟨l.getD 0 0, l.getD 1 0, l.getD 2 0, ri, 0, [], []⟩
def givD (l : List Int) (ri : Str) : List PyData := (List.range 8).map fun r => alD (r : Nat) (sgO l ri)
def spGiven : Sp := fun vs H Q _ => ∃ (p : Addr) (r1 r2 r3 : Int) (ri : Str), vs = [.ref p, .str ri] ∧ Rp H (.ref p) (triD [r1, r2, r3]) ∧
  ∀ (D : Addr) (us : List V) (H' : Hp), H D = none → H' D = some (.lst us) → RpAll H' us (givD [r1, r2, r3] ri) → Same H H' → Q (.ref D) H'
theorem ok_given {f : Addr} {fd : FuncData} (B : BT mg) (F : Fun K "given_ways" "given_ways" s_given_ways f fd) (hm : mg "given_ways" = some (.ref f)) (G_RINGS : GI mg "RINGS" 8) (C_ways_in : Cal P w K mg base "ways_in" 2 ["segment", "ring"] spWays) : Cal P w K mg base "given_ways" 3 ["brackets", "rights"] spGiven := by
  refine ⟨f, fd, hm, F.kp, F.binds (ps := ["brackets", "rights"]) fun _ _ _ _ _ _ us hl => match us, hl with | [_, _], _ => rfl, ?_⟩
  refine F.ok sc_given_ways (fun vs H Q E h => ?_) (fun cdv A outer s H vs Q E hr h => ?_)
  · obtain ⟨p, r1, r2, r3, ri, rfl, _⟩ := h
    rfl
  · obtain ⟨p, r1, r2, r3, ri, rfl, rp, k⟩ := h
    refine ⟨_, (pss_cons (ps_set (i := 2) sc_given_ways.nd rfl (Or.inr rfl) (pe_tup (pa_cons (pv 0) (pa_cons (pv 1) (pa_cons pe_int (pa_cons (pe_tup pa_nil) (pa_cons (pe_tup pa_nil) pa_nil)))))))
 (pss_one (ps_ret (pe_lc (own := [("ring", 3)]) (g := gName 3) (tt := tYes) rfl sc_given_ways.nd (pi_range1 rfl B.g_range (pa_cons (pe_gi G_RINGS rfl) pa_nil)) (blkOk_by (own := [("ring", 3)]) (N := ["brackets", "rights", "segment", "ring"]) (sc := defScope s_given_ways) (by decide +kernel)) (fun _ _ _ _ _ => (pg_name (i := 3) sc_given_ways.nd rfl (by first | exact Or.inl rfl | exact Or.inr rfl))) (fun _ _ _ _ _ => pts_nil) (fun _ _ _ _ _ => (pe_cal C_ways_in (hr.mono (by omega)) rfl (pa_cons (pv 2) (pa_cons (pv 3) pa_nil)))))))), ?_⟩
    walk_at "rds"
    intro e0 he0
    have s1 := same_upd (o := .tup []) he0
    have t1 : upd H e0 (.tup []) e0 = some (.tup []) := upd_same
    generalize upd H e0 (.tup []) = H1 at s1 t1
    walk_at "rd"
    intro e1 he1
    have s2 := same_upd (o := .tup []) he1
    have t2 : upd H1 e1 (.tup []) e1 = some (.tup []) := upd_same
    generalize upd H1 e1 (.tup []) = H2 at s2 t2
    walk_at "rd"
    intro sg hsg
    have s3 := same_upd (o := .tup [.ref p, .str ri, .int 0, .ref e0, .ref e1]) hsg
    have t3 : upd H2 sg (.tup [.ref p, .str ri, .int 0, .ref e0, .ref e1]) sg = some (.tup [.ref p, .str ri, .int 0, .ref e0, .ref e1]) := upd_same
    generalize upd H2 sg (.tup [.ref p, .str ri, .int 0, .ref e0, .ref e1]) = H3 at s3 t3
    have s13 := (s1.trans s2).trans s3
    have rs : Rp H3 (.ref sg) (sgO [r1, r2, r3] ri).d := .tup t3 (.cons (rp.keep (Tk.of s13)) (.cons (.str _) (.cons (.int _) (.cons (.tup ((s2.trans s3) _ _ t1) .nil) (.cons (.tup (s3 _ _ t2) .nil) .nil)))))
    walk_at "rd"
    refine ⟨8, rfl, by decide, by decide, fun D hD => ?_⟩
    refine lc_it (walk_range (n := 8)) (fun i H' => ∃ us, H' D = some (.lst us) ∧ RpAll H' us (((List.range i).map fun (r : Nat) => alD (r : Int) (sgO [r1, r2, r3] ri))) ∧ Same H3 H') ⟨[], upd_same, .nil, same_upd hD⟩ (fun _ _ _ _ => trivial) ?_ ?_
    · rintro i y Ha Hb hi ⟨us, hus, rus, sa⟩ ⟨rfl, rfl⟩
      walk_at "rd"
      refine ⟨rfl, ?_⟩
      walk_at "rd"
      refine ⟨.ref sg, sgO [r1, r2, r3] ri, 0 + (i : Int), rfl, rs.keep (Tk.of sa), fun u Hc ru sc => ?_⟩
      have huc := sc _ _ hus
      have tk : Tk Hc (upd Hc D (.lst (us ++ [u]))) := Tk.lst huc
      refine ⟨us, huc, small1000 (by rw [rus.length, List.length_map, List.length_range]; omega), us ++ [u], upd_same, ?_, fun c o e => by rw [upd_ne (ne_of_none e hD)]; exact sc _ _ (sa _ _ e)⟩
      rw [List.range_succ, List.map_append]
      refine ((rus.keep (Tk.of sc)).keep tk).append (.cons ?_ .nil)
      rw [Int.zero_add] at ru
      exact ru.keep tk
    · rintro Ha ⟨us, hus, rus, sa⟩
      exact k D us Ha (s13.free hD) hus rus (s13.trans sa)
def spWished : Sp := fun vs H Q _ => ∃ (a b c d : Addr) (as bs cs ds : List Int), vs = [.ref a, .ref b, .ref c, .ref d] ∧ H a = some (.lst (as.map V.int)) ∧ H b = some (.lst (bs.map V.int)) ∧ H c = some (.lst (cs.map V.int)) ∧ H d = some (.lst (ds.map V.int)) ∧
  ∀ (D : Addr) (us : List V) (H' : Hp), H D = none → H' D = some (.lst us) → RpAll H' us ((List.range 8).map fun (r : Nat) => .tuple [.bool (decide ((r : Int) ∈ as)), .bool (decide ((r : Int) ∈ bs)), .bool (decide ((r : Int) ∈ cs)), .bool (decide ((r : Int) ∈ ds))]) → Same H H' → Q (.ref D) H'
theorem ok_wished {f : Addr} {fd : FuncData} (B : BT mg) (F : Fun K "wished_ways" "wished_ways" s_wished_ways f fd) (hm : mg "wished_ways" = some (.ref f)) (G_RINGS : GI mg "RINGS" 8) : Cal P w K mg base "wished_ways" 1 ["reads", "writes", "runs", "calls"] spWished := by
  refine ⟨f, fd, hm, F.kp, F.binds (ps := ["reads", "writes", "runs", "calls"]) fun _ _ _ _ _ _ us hl => match us, hl with | [_, _, _, _], _ => rfl, ?_⟩
  refine F.ok sc_wished_ways (fun vs H Q E h => ?_) (fun cdv A outer s H vs Q E hr h => ?_)
  · obtain ⟨a, b, c, d, as, bs, cs, ds, rfl, _⟩ := h
    rfl
  · obtain ⟨a, b, c, d, as, bs, cs, ds, rfl, ha, hb, hc, hd, k⟩ := h
    refine ⟨_, (pss_one (ps_ret (pe_lc (own := [("ring", 4)]) (g := gName 4) (tt := tYes) rfl sc_wished_ways.nd (pi_range1 rfl B.g_range (pa_cons (pe_gi G_RINGS rfl) pa_nil)) (blkOk_by (own := [("ring", 4)]) (N := ["reads", "writes", "runs", "calls", "ring"]) (sc := defScope s_wished_ways) (by decide +kernel)) (fun _ _ _ _ _ => (pg_name (i := 4) sc_wished_ways.nd rfl (by first | exact Or.inl rfl | exact Or.inr rfl))) (fun _ _ _ _ _ => pts_nil) (fun _ _ _ _ _ => (pe_tup (pa_cons (pe_cmpR (r := rIn K false) op_in_seq (pv 4) (pv 0) (by rfl)) (pa_cons (pe_cmpR (r := rIn K false) op_in_seq (pv 4) (pv 1) (by rfl)) (pa_cons (pe_cmpR (r := rIn K false) op_in_seq (pv 4) (pv 2) (by rfl)) (pa_cons (pe_cmpR (r := rIn K false) op_in_seq (pv 4) (pv 3) (by rfl)) pa_nil))))))))), ?_⟩
    walk_at "rds"
    have flI : ∀ l : List Int, (l.map V.int).all flatV = true := fun l => by
      rw [List.all_eq_true]
      intro v hv
      obtain ⟨z, _, rfl⟩ := List.mem_map.mp hv
      rfl
    have inI : ∀ (z : Int) (l : List Int), inV (.int z) (l.map V.int) = decide (z ∈ l) := fun z l => by
      induction l with
      | nil => rfl
      | cons a l ih =>
        rw [show inV (V.int z) ((a :: l).map V.int) = (eqV (.int a) (.int z) || inV (.int z) (l.map V.int)) from rfl, ih]
        by_cases h : a = z
        · subst h
          simp [eqV]
        · simp [eqV, h, Ne.symm h]
    refine ⟨8, rfl, by decide, by decide, fun D hD => ?_⟩
    refine lc_it (walk_range (n := 8)) (fun i H' => ∃ us, H' D = some (.lst us) ∧ RpAll H' us ((List.range i).map fun (r : Nat) => .tuple [.bool (decide ((r : Int) ∈ as)), .bool (decide ((r : Int) ∈ bs)), .bool (decide ((r : Int) ∈ cs)), .bool (decide ((r : Int) ∈ ds))]) ∧ Same H H') ⟨[], upd_same, .nil, same_upd hD⟩ (fun _ _ _ _ => trivial) ?_ ?_
    · rintro i y Ha Hb hi ⟨us, hus, rus, sa⟩ ⟨rfl, rfl⟩
      walk_at "rd"
      refine ⟨rfl, ?_⟩
      walk_at "rd"
      refine rd_in (sa _ _ ha) rfl (flI as) ?_
      walk_at "rd"
      refine rd_in (sa _ _ hb) rfl (flI bs) ?_
      walk_at "rd"
      refine rd_in (sa _ _ hc) rfl (flI cs) ?_
      walk_at "rd"
      refine rd_in (sa _ _ hd) rfl (flI ds) ?_
      walk_at "rd"
      rw [inI, inI, inI, inI, Int.zero_add]
      intro q hq
      have sq := same_upd (o := .tup [.bl (decide ((i : Int) ∈ as)), .bl (decide ((i : Int) ∈ bs)), .bl (decide ((i : Int) ∈ cs)), .bl (decide ((i : Int) ∈ ds))]) hq
      have tq : upd Hb q (.tup [.bl (decide ((i : Int) ∈ as)), .bl (decide ((i : Int) ∈ bs)), .bl (decide ((i : Int) ∈ cs)), .bl (decide ((i : Int) ∈ ds))]) q = some (.tup [.bl (decide ((i : Int) ∈ as)), .bl (decide ((i : Int) ∈ bs)), .bl (decide ((i : Int) ∈ cs)), .bl (decide ((i : Int) ∈ ds))]) := upd_same
      generalize upd Hb q (.tup [.bl (decide ((i : Int) ∈ as)), .bl (decide ((i : Int) ∈ bs)), .bl (decide ((i : Int) ∈ cs)), .bl (decide ((i : Int) ∈ ds))]) = Hc at sq tq
      have huc := sq _ _ hus
      have tk : Tk Hc (upd Hc D (.lst (us ++ [.ref q]))) := Tk.lst huc
      refine ⟨us, huc, small1000 (by rw [rus.length, List.length_map, List.length_range]; omega), us ++ [.ref q], upd_same, ?_, fun c o e => by rw [upd_ne (ne_of_none e hD)]; exact sq _ _ (sa _ _ e)⟩
      rw [List.range_succ, List.map_append]
      exact ((rus.keep (Tk.of sq)).keep tk).append (.cons ((Rp.tup tq (.cons (.bl _) (.cons (.bl _) (.cons (.bl _) (.cons (.bl _) .nil))))).keep tk) .nil)
    · rintro Ha ⟨us, hus, rus, sa⟩
      exact k D us Ha hD hus rus sa
def rgtS (as bs cs ds : List Int) : Str := (if as = [] then "" else "r") ++ (if bs = [] then "" else "w") ++ (if cs = [] ∧ ds = [] then "" else "x")
def spRights : Sp := fun vs H Q _ => ∃ (a b c d : Addr) (as bs cs ds : List Int), vs = [.ref a, .ref b, .ref c, .ref d] ∧ H a = some (.lst (as.map V.int)) ∧ H b = some (.lst (bs.map V.int)) ∧ H c = some (.lst (cs.map V.int)) ∧ H d = some (.lst (ds.map V.int)) ∧ ∀ H', Same H H' → Q (.str (rgtS as bs cs ds)) H'
theorem ok_rights {f : Addr} {fd : FuncData} (B : BT mg) (F : Fun K "rights_for" "rights_for" s_rights_for f fd) (hm : mg "rights_for" = some (.ref f)) : Cal P w K mg base "rights_for" 1 ["reads", "writes", "runs", "calls"] spRights := by
  refine ⟨f, fd, hm, F.kp, F.binds (ps := ["reads", "writes", "runs", "calls"]) fun _ _ _ _ _ _ us hl => match us, hl with | [_, _, _, _], _ => rfl, ?_⟩
  refine F.ok sc_rights_for (fun vs H Q E h => ?_) (fun cdv A outer s H vs Q E hr h => ?_)
  · obtain ⟨a, b, c, d, as, bs, cs, ds, rfl, _⟩ := h
    rfl
  · obtain ⟨a, b, c, d, as, bs, cs, ds, rfl, ha, hb, hc, hd, k⟩ := h
    refine ⟨_, (pss_one (ps_ret (pe_op op_add_str (pe_op op_add_str (pe_ifExp (pt_truth (pv 0) (fun _ => rfl)) pe_str pe_str) (pe_ifExp (pt_truth (pv 1) (fun _ => rfl)) pe_str pe_str)) (pe_ifExp (PW.pt (pw_or (pt_truth (pv 2) (fun _ => rfl)) (pw_or1 (pt_truth (pv 3) (fun _ => rfl))))) pe_str pe_str)))), ?_⟩
    cases as <;> cases bs <;> cases cs <;> cases ds
    all_goals
      walk_at "rds"
      refine rd_tif ?_
      walk_at "rd"
      refine ⟨_, .inl ⟨_, SqL.of ha, rfl⟩, ?_⟩
      first | refine (if_pos rfl).mpr ?_ | refine (if_neg (by decide)).mpr ?_
      walk_at "rd"
      refine rd_tif ?_
      walk_at "rd"
      refine ⟨_, .inl ⟨_, SqL.of hb, rfl⟩, ?_⟩
      first | refine (if_pos rfl).mpr ?_ | refine (if_neg (by decide)).mpr ?_
      walk_at "rd"
      refine ⟨_, _, rfl, rfl, by decide +kernel, ?_⟩
      refine rd_tif ?_
      walk_at "rd"
      refine ⟨_, .inl ⟨_, SqL.of hc, rfl⟩, ?_⟩
    all_goals first
      | (refine (if_pos rfl).mpr ?_
         walk_at "rd"
         refine ⟨_, _, rfl, rfl, by decide +kernel, ?_⟩
         exact k _ (Same.refl _))
      | (refine (if_neg (by decide)).mpr ?_
         walk_at "rd"
         refine ⟨_, .inl ⟨_, SqL.of hd, rfl⟩, ?_⟩
         first | refine (if_pos rfl).mpr ?_ | refine (if_neg (by decide)).mpr ?_
         walk_at "rd"
         refine ⟨_, _, rfl, rfl, by decide +kernel, ?_⟩
         exact k _ (Same.refl _))

end
end Rg

namespace Rg
open PySem PySem.Spec L2
local macro_rules | `(tactic| walk_at "rd1") => `(tactic| first
  | with_reducible refine rd_seq ?_
  | with_reducible refine rd_asg ?_
  | ((with_reducible show tVar _ _ _ _); refine rd_var rfl ?_)
  | with_reducible refine rd_c ?_
  | with_reducible refine rd_op ?_
  | with_reducible refine rd_I0 ?_
  | with_reducible refine rd_name ?_
  | with_reducible refine rd_ret ?_
  | with_reducible refine rd_ifs ?_
  | with_reducible refine rd_test ?_
  | with_reducible refine rd_tB ?_
  | with_reducible refine rd_bl ?_
  | with_reducible refine rd_drop ?_
  | with_reducible refine rd_nil ?_
  | with_reducible refine rd_cons ?_
  | with_reducible refine rd_call ?_
  | with_reducible refine rd_cb ?_
  | with_reducible refine rd_tup ?_
  | with_reducible refine rd_lst ?_
  | with_reducible refine rd_and ?_
  | with_reducible refine rd_or ?_
  | with_reducible refine rd_not ?_
  | with_reducible refine rd_andV ?_
  | with_reducible refine rd_orV ?_
  | with_reducible refine rd_notV ?_
  | with_reducible refine rd_chain ?_
  | with_reducible refine rd_un ?_
  | with_reducible refine rd_isN ?_
  | with_reducible refine rd_bm ?_
  | with_reducible refine rd_bm0 ?_
  | with_reducible refine rd_gsub ?_
  | with_reducible refine rd_sl ?_
  | with_reducible refine rd_gt ?_
  | with_reducible refine rd_yes ?_
  | with_reducible refine rd_gcons ?_
  | with_reducible refine rd_gnil ?_
  | with_reducible refine rd_part ?_
  | with_reducible refine rd_nopart ?_
  | ((with_reducible show gTup _ _ _ _ _ _ _); refine rd_gtup (by first | assumption | exact upd_same) rfl ?_)
  | ((with_reducible show gLst _ _ _ _ _ _ _); refine rd_glst (by first | assumption | exact upd_same) rfl ?_)
  | ((with_reducible show rIsi _ _ _ _); first | refine rd_isi (b := true) (.ty _) (.base (by first | exact .int _ | exact .str _ | exact .bl _ | exact .non | exact .tup (by assumption) | exact .lst (by assumption))) (kit_ty (by decide +kernel)) ?_ | refine rd_isi (b := false) (.ty _) (.base (by first | exact .int _ | exact .str _ | exact .bl _ | exact .non | exact .tup (by assumption) | exact .lst (by assumption))) (kit_ty (by decide +kernel)) ?_)
  | with_reducible refine rd_fld ?_
  | with_reducible refine rd_sfld ?_
  | with_reducible refine rd_meth ?_
  | with_reducible refine rd_make ?_
  | with_reducible refine rd_makeK ?_
  | with_reducible refine rd_U ?_
  | with_reducible refine rd_makeKS ?_
  | with_reducible refine rd_callN ?_
  | with_reducible refine rd_rs ?_
  | with_reducible refine rd_rf ?_
  | with_reducible refine rd_star ?_
  | with_reducible refine rd_callS ?_
  | with_reducible refine rd_for ?_
  | with_reducible refine rd_lc ?_
  | with_reducible refine rd_ilist ?_
  | with_reducible refine rd_itup ?_
  | with_reducible refine rd_irng ?_
  | with_reducible refine rd_izipS ?_
  | with_reducible refine rd_ienum ?_
  | with_reducible refine rd_ienT ?_
  | with_reducible refine rd_next ?_
  | with_reducible refine rd_eq rfl ?_
  | with_reducible refine rd_ne rfl ?_
  | with_reducible refine iteT ?_
  | with_reducible refine iteF ?_
  | with_reducible refine rd_ifnT ?_
  | with_reducible refine rd_ifnF ?_
  | ((with_reducible show rI (fun _ j => (0 : Int) < j) _ _ _ _ _); refine rd_mod (by omega) ?_)
  | with_reducible refine rd_new rfl ?_
  | ((with_reducible show rIxL _ _ (V.int 0) _ _); refine rd_ixL0 (by first | assumption | exact upd_same) ?_)
  | ((with_reducible show rIxL _ _ _ _ _); refine rd_ixL (by first | assumption | exact upd_same) rfl ?_)
  | ((with_reducible show rSetL _ _ _ _ _); refine rd_setL (by first | assumption | exact upd_same) rfl ?_)
  | ((with_reducible show rI CMul _ _ _ _ _); refine rd_mul (by first | exact Or.inl ⟨by omega, by omega⟩ | exact Or.inr ⟨by omega, by omega⟩) ?_)
  | ((with_reducible show tyV _ "list" _ _ ∧ _); refine rd_tyL (by first | assumption | exact upd_same) ?_)
  | ((with_reducible show rIxT _ _ (V.int 0) _ _); refine rd_ixT0 (by first | assumption | exact upd_same) ?_)
  | ((with_reducible show rIxT _ _ _ _ _); refine rd_ixT (by first | assumption | exact upd_same) rfl ?_))
local macro_rules | `(tactic| walk_at "rdn1") => `(tactic| first
  | with_reducible refine rd_seq ?_
  | with_reducible refine rd_asg ?_
  | ((with_reducible show tVar _ _ _ _); refine rd_var rfl ?_)
  | with_reducible refine rd_c ?_
  | with_reducible refine rd_op ?_
  | with_reducible refine rd_I0 ?_
  | with_reducible refine rd_name ?_
  | with_reducible refine rd_ret ?_
  | with_reducible refine rd_ifs ?_
  | with_reducible refine rd_test ?_
  | with_reducible refine rd_tB ?_
  | with_reducible refine rd_bl ?_
  | with_reducible refine rd_drop ?_
  | with_reducible refine rd_nil ?_
  | with_reducible refine rd_cons ?_
  | with_reducible refine rd_call ?_
  | with_reducible refine rd_cb ?_
  | with_reducible refine rd_tup ?_
  | with_reducible refine rd_lst ?_
  | with_reducible refine rd_and ?_
  | with_reducible refine rd_or ?_
  | with_reducible refine rd_not ?_
  | with_reducible refine rd_notV ?_
  | with_reducible refine rd_chain ?_
  | with_reducible refine rd_un ?_
  | with_reducible refine rd_isN ?_
  | with_reducible refine rd_bm ?_
  | with_reducible refine rd_bm0 ?_
  | with_reducible refine rd_gsub ?_
  | with_reducible refine rd_sl ?_
  | with_reducible refine rd_gt ?_
  | with_reducible refine rd_yes ?_
  | with_reducible refine rd_gcons ?_
  | with_reducible refine rd_gnil ?_
  | with_reducible refine rd_part ?_
  | with_reducible refine rd_nopart ?_
  | ((with_reducible show gTup _ _ _ _ _ _ _); refine rd_gtup (by first | assumption | exact upd_same) rfl ?_)
  | ((with_reducible show gLst _ _ _ _ _ _ _); refine rd_glst (by first | assumption | exact upd_same) rfl ?_)
  | ((with_reducible show rIsi _ _ _ _); first | refine rd_isi (b := true) (.ty _) (.base (by first | exact .int _ | exact .str _ | exact .bl _ | exact .non | exact .tup (by assumption) | exact .lst (by assumption))) (kit_ty (by decide +kernel)) ?_ | refine rd_isi (b := false) (.ty _) (.base (by first | exact .int _ | exact .str _ | exact .bl _ | exact .non | exact .tup (by assumption) | exact .lst (by assumption))) (kit_ty (by decide +kernel)) ?_)
  | with_reducible refine rd_fld ?_
  | with_reducible refine rd_sfld ?_
  | with_reducible refine rd_meth ?_
  | with_reducible refine rd_make ?_
  | with_reducible refine rd_makeK ?_
  | with_reducible refine rd_U ?_
  | with_reducible refine rd_makeKS ?_
  | with_reducible refine rd_callN ?_
  | with_reducible refine rd_rs ?_
  | with_reducible refine rd_rf ?_
  | with_reducible refine rd_star ?_
  | with_reducible refine rd_callS ?_
  | with_reducible refine rd_for ?_
  | with_reducible refine rd_lc ?_
  | with_reducible refine rd_ilist ?_
  | with_reducible refine rd_itup ?_
  | with_reducible refine rd_irng ?_
  | with_reducible refine rd_izipS ?_
  | with_reducible refine rd_ienum ?_
  | with_reducible refine rd_ienT ?_
  | with_reducible refine rd_next ?_
  | with_reducible refine rd_eq rfl ?_
  | with_reducible refine rd_ne rfl ?_
  | with_reducible refine iteT ?_
  | with_reducible refine iteF ?_
  | with_reducible refine rd_ifnT ?_
  | with_reducible refine rd_ifnF ?_
  | ((with_reducible show rI (fun _ j => (0 : Int) < j) _ _ _ _ _); refine rd_mod (by omega) ?_)
  | with_reducible refine rd_new rfl ?_
  | ((with_reducible show rIxL _ _ (V.int 0) _ _); refine rd_ixL0 (by first | assumption | exact upd_same) ?_)
  | ((with_reducible show rIxL _ _ _ _ _); refine rd_ixL (by first | assumption | exact upd_same) rfl ?_)
  | ((with_reducible show rSetL _ _ _ _ _); refine rd_setL (by first | assumption | exact upd_same) rfl ?_)
  | ((with_reducible show rI CMul _ _ _ _ _); refine rd_mul (by first | exact Or.inl ⟨by omega, by omega⟩ | exact Or.inr ⟨by omega, by omega⟩) ?_)
  | ((with_reducible show tyV _ "list" _ _ ∧ _); refine rd_tyL (by first | assumption | exact upd_same) ?_)
  | ((with_reducible show rIxT _ _ (V.int 0) _ _); refine rd_ixT0 (by first | assumption | exact upd_same) ?_)
  | ((with_reducible show rIxT _ _ _ _ _); refine rd_ixT (by first | assumption | exact upd_same) rfl ?_))
local macro_rules | `(tactic| walk_at "rd") => `(tactic| (repeat (first | walk_at "rd1" | dsimp only)))
local macro_rules | `(tactic| walk_at "rds") => `(tactic| (dsimp only [cxOf, Cx.nox, Cx.wish, Cx.blk, L2.start]; walk_at "rd"))
local macro_rules | `(tactic| walk_at "rdn") => `(tactic| (repeat (first | walk_at "rdn1" | dsimp only)))
section
variable {P : Program} {w : World} {K : PySem.W.Frag} {mg : Str → Option Value} {base : Heap}

/-! min of a list of alike data -/
def rMinT (K : PySem.W.Frag) : List V → Hp → VK → Prop := fun vs H Q => ∃ (a : Addr) (us : List V) (d : PyData) (ds : List PyData), vs = [.ref a] ∧ H a = some (.lst us) ∧ RpAll H us (d :: ds) ∧ PySem.W.AlikeAll (d :: ds) ∧ PyData.depthAll (d :: ds) ≤ 60 ∧
  ∀ (u : V) (e : PyData), u ∈ us → Rp H u e → e = PySem.W.minD d ds → Q u H
theorem cr_minT {X : Cx} {K : PySem.W.Frag} (hu : X.A.units + 64 < cLine) (hc : X.calm = true) (hK : X.K = K := by rfl) : CallR X (.builtin "min") (rMinT K) := by
  subst hK
  intro pins s σ H vs us Q I r h
  obtain ⟨a, xs, d, ds, rfl, ha, ra, al, dp, q⟩ := h
  obtain ⟨its, rv, hl, _⟩ := I.list (SqL.of (K := X.K) ha)
  rw [Vals.ref1 r]
  obtain ⟨as, rs⟩ := Dp.readsAll I (d :: ds) xs its ra.dp rv
  refine PySem.W.min_list_data (I.ok.hd hc) hl.isList (by simpa using rs) al (by omega) fun i v h' tk bs hv hr hk => ?_
  have hv' : its[i]? = some v := by simpa using hv
  have hlt : i < its.length := (List.getElem?_eq_some_iff.mp hv').1
  have hx : xs[i]? = some (xs[i]'(by rw [rv.length]; exact hlt)) := List.getElem?_eq_getElem _
  generalize xs[i]'(by rw [rv.length]; exact hlt) = x at hx
  obtain ⟨v', hv2, rx⟩ := rv.get hx
  rw [hv'] at hv2
  cases hv2
  obtain ⟨e, he, re⟩ := ra.get hx
  obtain ⟨as2, r2⟩ := Dp.reads I e x v re.dp rx
  have e2 : e = PySem.W.minD d ds := (Reads.unique (PySem.W.reads_keeps hk r2) _ _ hr).1
  exact ⟨x, H, I.kept hk, rx, q x e (List.mem_of_getElem? hx) re e2⟩

end
end Rg

namespace Rg
open PySem PySem.Spec L2
local macro_rules | `(tactic| walk_at "rd1") => `(tactic| first
  | with_reducible refine rd_seq ?_
  | with_reducible refine rd_asg ?_
  | ((with_reducible show tVar _ _ _ _); refine rd_var rfl ?_)
  | with_reducible refine rd_c ?_
  | with_reducible refine rd_op ?_
  | with_reducible refine rd_I0 ?_
  | with_reducible refine rd_name ?_
  | with_reducible refine rd_ret ?_
  | with_reducible refine rd_ifs ?_
  | with_reducible refine rd_test ?_
  | with_reducible refine rd_tB ?_
  | with_reducible refine rd_bl ?_
  | with_reducible refine rd_drop ?_
  | with_reducible refine rd_nil ?_
  | with_reducible refine rd_cons ?_
  | with_reducible refine rd_call ?_
  | with_reducible refine rd_cb ?_
  | with_reducible refine rd_tup ?_
  | with_reducible refine rd_lst ?_
  | with_reducible refine rd_and ?_
  | with_reducible refine rd_or ?_
  | with_reducible refine rd_not ?_
  | with_reducible refine rd_andV ?_
  | with_reducible refine rd_orV ?_
  | with_reducible refine rd_notV ?_
  | with_reducible refine rd_chain ?_
  | with_reducible refine rd_un ?_
  | with_reducible refine rd_isN ?_
  | with_reducible refine rd_bm ?_
  | with_reducible refine rd_bm0 ?_
  | with_reducible refine rd_gsub ?_
  | with_reducible refine rd_sl ?_
  | with_reducible refine rd_gt ?_
  | with_reducible refine rd_yes ?_
  | with_reducible refine rd_gcons ?_
  | with_reducible refine rd_gnil ?_
  | with_reducible refine rd_part ?_
  | with_reducible refine rd_nopart ?_
  | ((with_reducible show gTup _ _ _ _ _ _ _); refine rd_gtup (by first | assumption | exact upd_same) rfl ?_)
  | ((with_reducible show gLst _ _ _ _ _ _ _); refine rd_glst (by first | assumption | exact upd_same) rfl ?_)
  | ((with_reducible show rIsi _ _ _ _); first | refine rd_isi (b := true) (.ty _) (.base (by first | exact .int _ | exact .str _ | exact .bl _ | exact .non | exact .tup (by assumption) | exact .lst (by assumption))) (kit_ty (by decide +kernel)) ?_ | refine rd_isi (b := false) (.ty _) (.base (by first | exact .int _ | exact .str _ | exact .bl _ | exact .non | exact .tup (by assumption) | exact .lst (by assumption))) (kit_ty (by decide +kernel)) ?_)
  | with_reducible refine rd_fld ?_
  | with_reducible refine rd_sfld ?_
  | with_reducible refine rd_meth ?_
  | with_reducible refine rd_make ?_
  | with_reducible refine rd_makeK ?_
  | with_reducible refine rd_U ?_
  | with_reducible refine rd_makeKS ?_
  | with_reducible refine rd_callN ?_
  | with_reducible refine rd_rs ?_
  | with_reducible refine rd_rf ?_
  | with_reducible refine rd_star ?_
  | with_reducible refine rd_callS ?_
  | with_reducible refine rd_for ?_
  | with_reducible refine rd_lc ?_
  | with_reducible refine rd_ilist ?_
  | with_reducible refine rd_itup ?_
  | with_reducible refine rd_irng ?_
  | with_reducible refine rd_izipS ?_
  | with_reducible refine rd_ienum ?_
  | with_reducible refine rd_ienT ?_
  | with_reducible refine rd_next ?_
  | with_reducible refine rd_eq rfl ?_
  | with_reducible refine rd_ne rfl ?_
  | with_reducible refine iteT ?_
  | with_reducible refine iteF ?_
  | with_reducible refine rd_ifnT ?_
  | with_reducible refine rd_ifnF ?_
  | ((with_reducible show rI (fun _ j => (0 : Int) < j) _ _ _ _ _); refine rd_mod (by omega) ?_)
  | with_reducible refine rd_new rfl ?_
  | ((with_reducible show rIxL _ _ (V.int 0) _ _); refine rd_ixL0 (by first | assumption | exact upd_same) ?_)
  | ((with_reducible show rIxL _ _ _ _ _); refine rd_ixL (by first | assumption | exact upd_same) rfl ?_)
  | ((with_reducible show rSetL _ _ _ _ _); refine rd_setL (by first | assumption | exact upd_same) rfl ?_)
  | ((with_reducible show rI CMul _ _ _ _ _); refine rd_mul (by first | exact Or.inl ⟨by omega, by omega⟩ | exact Or.inr ⟨by omega, by omega⟩) ?_)
  | ((with_reducible show tyV _ "list" _ _ ∧ _); refine rd_tyL (by first | assumption | exact upd_same) ?_)
  | ((with_reducible show rIxT _ _ (V.int 0) _ _); refine rd_ixT0 (by first | assumption | exact upd_same) ?_)
  | ((with_reducible show rIxT _ _ _ _ _); refine rd_ixT (by first | assumption | exact upd_same) rfl ?_))
local macro_rules | `(tactic| walk_at "rdn1") => `(tactic| first
  | with_reducible refine rd_seq ?_
  | with_reducible refine rd_asg ?_
  | ((with_reducible show tVar _ _ _ _); refine rd_var rfl ?_)
  | with_reducible refine rd_c ?_
  | with_reducible refine rd_op ?_
  | with_reducible refine rd_I0 ?_
  | with_reducible refine rd_name ?_
  | with_reducible refine rd_ret ?_
  | with_reducible refine rd_ifs ?_
  | with_reducible refine rd_test ?_
  | with_reducible refine rd_tB ?_
  | with_reducible refine rd_bl ?_
  | with_reducible refine rd_drop ?_
  | with_reducible refine rd_nil ?_
  | with_reducible refine rd_cons ?_
  | with_reducible refine rd_call ?_
  | with_reducible refine rd_cb ?_
  | with_reducible refine rd_tup ?_
  | with_reducible refine rd_lst ?_
  | with_reducible refine rd_and ?_
  | with_reducible refine rd_or ?_
  | with_reducible refine rd_not ?_
  | with_reducible refine rd_notV ?_
  | with_reducible refine rd_chain ?_
  | with_reducible refine rd_un ?_
  | with_reducible refine rd_isN ?_
  | with_reducible refine rd_bm ?_
  | with_reducible refine rd_bm0 ?_
  | with_reducible refine rd_gsub ?_
  | with_reducible refine rd_sl ?_
  | with_reducible refine rd_gt ?_
  | with_reducible refine rd_yes ?_
  | with_reducible refine rd_gcons ?_
  | with_reducible refine rd_gnil ?_
  | with_reducible refine rd_part ?_
  | with_reducible refine rd_nopart ?_
  | ((with_reducible show gTup _ _ _ _ _ _ _); refine rd_gtup (by first | assumption | exact upd_same) rfl ?_)
  | ((with_reducible show gLst _ _ _ _ _ _ _); refine rd_glst (by first | assumption | exact upd_same) rfl ?_)
  | ((with_reducible show rIsi _ _ _ _); first | refine rd_isi (b := true) (.ty _) (.base (by first | exact .int _ | exact .str _ | exact .bl _ | exact .non | exact .tup (by assumption) | exact .lst (by assumption))) (kit_ty (by decide +kernel)) ?_ | refine rd_isi (b := false) (.ty _) (.base (by first | exact .int _ | exact .str _ | exact .bl _ | exact .non | exact .tup (by assumption) | exact .lst (by assumption))) (kit_ty (by decide +kernel)) ?_)
  | with_reducible refine rd_fld ?_
  | with_reducible refine rd_sfld ?_
  | with_reducible refine rd_meth ?_
  | with_reducible refine rd_make ?_
  | with_reducible refine rd_makeK ?_
  | with_reducible refine rd_U ?_
  | with_reducible refine rd_makeKS ?_
  | with_reducible refine rd_callN ?_
  | with_reducible refine rd_rs ?_
  | with_reducible refine rd_rf ?_
  | with_reducible refine rd_star ?_
  | with_reducible refine rd_callS ?_
  | with_reducible refine rd_for ?_
  | with_reducible refine rd_lc ?_
  | with_reducible refine rd_ilist ?_
  | with_reducible refine rd_itup ?_
  | with_reducible refine rd_irng ?_
  | with_reducible refine rd_izipS ?_
  | with_reducible refine rd_ienum ?_
  | with_reducible refine rd_ienT ?_
  | with_reducible refine rd_next ?_
  | with_reducible refine rd_eq rfl ?_
  | with_reducible refine rd_ne rfl ?_
  | with_reducible refine iteT ?_
  | with_reducible refine iteF ?_
  | with_reducible refine rd_ifnT ?_
  | with_reducible refine rd_ifnF ?_
  | ((with_reducible show rI (fun _ j => (0 : Int) < j) _ _ _ _ _); refine rd_mod (by omega) ?_)
  | with_reducible refine rd_new rfl ?_
  | ((with_reducible show rIxL _ _ (V.int 0) _ _); refine rd_ixL0 (by first | assumption | exact upd_same) ?_)
  | ((with_reducible show rIxL _ _ _ _ _); refine rd_ixL (by first | assumption | exact upd_same) rfl ?_)
  | ((with_reducible show rSetL _ _ _ _ _); refine rd_setL (by first | assumption | exact upd_same) rfl ?_)
  | ((with_reducible show rI CMul _ _ _ _ _); refine rd_mul (by first | exact Or.inl ⟨by omega, by omega⟩ | exact Or.inr ⟨by omega, by omega⟩) ?_)
  | ((with_reducible show tyV _ "list" _ _ ∧ _); refine rd_tyL (by first | assumption | exact upd_same) ?_)
  | ((with_reducible show rIxT _ _ (V.int 0) _ _); refine rd_ixT0 (by first | assumption | exact upd_same) ?_)
  | ((with_reducible show rIxT _ _ _ _ _); refine rd_ixT (by first | assumption | exact upd_same) rfl ?_))
local macro_rules | `(tactic| walk_at "rd") => `(tactic| (repeat (first | walk_at "rd1" | dsimp only)))
local macro_rules | `(tactic| walk_at "rds") => `(tactic| (dsimp only [cxOf, Cx.nox, Cx.wish, Cx.blk, L2.start]; walk_at "rd"))
local macro_rules | `(tactic| walk_at "rdn") => `(tactic| (repeat (first | walk_at "rdn1" | dsimp only)))
section
variable {P : Program} {w : World} {K : PySem.W.Frag} {mg : Str → Option Value} {base : Heap}

/-! brackets for wishes: the reckoning -/
/-- four lists by number -/
def at4 (as bs cs ds : List Int) (k : Nat) : List Int := ([as, bs, cs, ds] : List (List Int)).getD k []
def mayK (s : Sg) (r : Int) (k : Nat) : Bool := ([mRead s r, mWrite s r, mRun s r, mCall s r] : List Bool).getD k false
def rightsO : List Str := ["", "r", "rw", "rwx", "rx", "w", "wx", "x"]
def choices : List (List Int × Str) := allB.flatMap fun l => rightsO.map fun ri => (l, ri)
def cells8 : List (Nat × Nat) := (List.range 8).flatMap fun r => (List.range 4).map fun k => (r, k)
def beyN (g : Nat → List Int) (s : Sg) (ps : List (Nat × Nat)) : Nat := ps.countP fun p => mayK s (p.1 : Int) p.2 && !decide ((p.1 : Int) ∈ g p.2)
def lacB (g : Nat → List Int) (s : Sg) (ps : List (Nat × Nat)) : Bool := ps.any fun p => decide ((p.1 : Int) ∈ g p.2) && !mayK s (p.1 : Int) p.2
def wsD (as bs cs ds : List Int) : List PyData := (List.range 8).map fun (r : Nat) => .tuple [.bool (decide ((r : Int) ∈ as)), .bool (decide ((r : Int) ∈ bs)), .bool (decide ((r : Int) ∈ cs)), .bool (decide ((r : Int) ∈ ds))]
def fitD (as bs cs ds : List Int) (l : List Int) (ri : Str) : Bool := PyData.eqv (.list (givD l ri)) (.list (wsD as bs cs ds))
def bfD (as bs cs ds : List Int) : PyData := match allB.find? fun l => fitD as bs cs ds l (rgtS as bs cs ds) with
  | none => .none
  | some l => .tuple [triD l, .str (rgtS as bs cs ds)]
theorem allB_ok : allB.all (fun l => match l with | [a, b, c] => decide (0 ≤ a) && (decide (a ≤ b) && (decide (b ≤ c) && decide (c ≤ 7))) | _ => false) = true := by decide +kernel
theorem mem_allB {l : List Int} (h : l ∈ allB) : ∃ a b c, l = [a, b, c] ∧ 0 ≤ a ∧ a ≤ b ∧ b ≤ c ∧ c ≤ 7 := by
  have := List.all_eq_true.mp allB_ok l h
  match l, this with
  | [a, b, c], h =>
    simp only [Bool.and_eq_true, decide_eq_true_eq] at h
    exact ⟨a, b, c, rfl, h.1, h.2.1, h.2.2.1, h.2.2.2⟩
theorem allB_len : allB.length = 120 := by decide +kernel
theorem tri_alike {l m : List Int} (h1 : l ∈ allB) (h2 : m ∈ allB) : PySem.W.alike (triD l) (triD m) = true := by
  obtain ⟨a, b, c, rfl, _⟩ := mem_allB h1
  obtain ⟨d, e, f, rfl, _⟩ := mem_allB h2
  rfl
def triLt : List Int → List Int → Bool
  | [a, b, c], [d, e, f] => decide (a < d ∨ (a = d ∧ (b < e ∨ (b = e ∧ c < f))))
  | _, _ => false
theorem tri_lt {l m : List Int} (h1 : l ∈ allB) (h2 : m ∈ allB) : PySem.W.dataLt (triD l) (triD m) = triLt l m := by
  obtain ⟨a, b, c, rfl, _⟩ := mem_allB h1
  obtain ⟨d, e, f, rfl, _⟩ := mem_allB h2
  show PySem.W.dataLt (.tuple [.int a, .int b, .int c]) (.tuple [.int d, .int e, .int f]) = _
  have ei : ∀ x y : Int, PyData.eqv (.int x) (.int y) = decide (x = y) := fun x y => by
    rw [PyData.eqv]; by_cases h : x = y <;> simp [h]
  rw [PySem.W.dataLt_tuple, PySem.W.dataLt_cons rfl, PySem.W.dataLt_cons rfl, PySem.W.dataLt_cons rfl, PySem.W.dataLt_int, PySem.W.dataLt_int, PySem.W.dataLt_int, ei, ei, ei]
  have e0 : PyProof.Rows.lexLt PyProof.Rows.itemOrd (PySem.W.keyToksAll []) (PySem.W.keyToksAll []) = false := by decide +kernel
  rw [e0]
  unfold triLt
  by_cases x : a = d <;> by_cases y : b = e <;> by_cases z : c = f <;> simp [x, y, z]
theorem allB_sorted : allB.Pairwise fun a b => triLt a b = true ∧ triLt b a = false := by
  decide +kernel
theorem min_tri {l : List Int} {ls : List (List Int)} (h : ∀ x ∈ l :: ls, x ∈ allB) (hp : (l :: ls).Pairwise fun a b => triLt a b = true ∧ triLt b a = false) : PySem.W.minD (triD l) (ls.map triD) = triD l := by
  unfold PySem.W.minD
  rw [List.foldl_map]
  have hl := h l (by simp)
  have hb := (List.pairwise_cons.mp hp).1
  have hm : ∀ x ∈ ls, x ∈ allB := fun x hx => h x (by simp [hx])
  clear hp h
  induction ls with
  | nil => rfl
  | cons a r ih =>
    rw [List.foldl_cons, tri_lt (hm a (by simp)) hl, (hb a (by simp)).2]
    exact ih (fun x hx => hb x (by simp [hx])) (fun x hx => hm x (by simp [hx]))
theorem alike_tris {ls : List (List Int)} (h : ∀ x ∈ ls, x ∈ allB) : PySem.W.AlikeAll (ls.map triD) := by
  refine ⟨fun x hx y hy => ?_, fun x hx => ?_⟩
  · obtain ⟨l, hl, rfl⟩ := List.mem_map.mp hx
    obtain ⟨m, hm, rfl⟩ := List.mem_map.mp hy
    exact tri_alike (h l hl) (h m hm)
  · obtain ⟨l, hl, rfl⟩ := List.mem_map.mp hx
    exact fun z => nomatch z
theorem depth_all {ds : List PyData} {j : Nat} (h : okN (j + 1) (.list ds)) : PyData.depthAll ds ≤ j := by
  have := depth_ok (j + 1) (.list ds) h
  rw [PyData.depth] at this
  omega
theorem tris_depth {ls : List (List Int)} (h : ∀ x ∈ ls, x ∈ allB) (hl : ls.length ≤ 1000) : PyData.depthAll (ls.map triD) ≤ 60 := by
  refine Nat.le_trans (depth_all (j := 3) (okN_mapL hl fun x hx => ?_)) (by decide)
  obtain ⟨a, b, c, rfl, _⟩ := mem_allB (h x hx)
  exact ⟨by show 3 ≤ 1000000; decide, fun z hz => ok_ints [a, b, c] 1 z hz⟩

/-! what fits: the law's look and the program's -/
def goodC (as bs cs ds : List Int) (c : List Int × Str) : Bool := decide (beyN (at4 as bs cs ds) (sgO c.1 c.2) cells8 = 0) && !lacB (at4 as bs cs ds) (sgO c.1 c.2) cells8
def Fits (as bs cs ds : List Int) (sg : Sg) : Prop := ∀ r < 8, mRead sg ((r : Nat) : Int) = decide ((r : Int) ∈ as) ∧ mWrite sg (r : Int) = decide ((r : Int) ∈ bs) ∧ mRun sg (r : Int) = decide ((r : Int) ∈ cs) ∧ mCall sg (r : Int) = decide ((r : Int) ∈ ds)
theorem eqv_maps {α : Type} (f g : α → PyData) : ∀ xs : List α, PyData.eqvAll (xs.map f) (xs.map g) = xs.all fun x => PyData.eqv (f x) (g x)
  | [] => by simp [PyData.eqvAll]
  | x :: xs => by rw [List.map_cons, List.map_cons, PyData.eqvAll, eqv_maps f g xs, List.all_cons]
theorem fitD_iff {as bs cs ds l : List Int} {ri : Str} : fitD as bs cs ds l ri = true ↔ Fits as bs cs ds (sgO l ri) := by
  unfold fitD givD wsD Fits
  rw [PyData.eqv, eqv_maps, List.all_eq_true]
  constructor
  · intro h r hr
    have := h r (List.mem_range.mpr hr)
    unfold alD at this
    simpa [PyData.eqv, PyData.eqvAll] using this
  · intro h r hr
    have := h r (List.mem_range.mp hr)
    unfold alD
    simpa [PyData.eqv, PyData.eqvAll] using this
theorem cells_all {p : Nat × Nat → Prop} : (∀ x ∈ cells8, p x) ↔ ∀ r < 8, p (r, 0) ∧ p (r, 1) ∧ p (r, 2) ∧ p (r, 3) := by
  constructor
  · intro h r hr
    have m : ∀ k < 4, (r, k) ∈ cells8 := fun k hk => List.mem_flatMap.mpr ⟨r, List.mem_range.mpr hr, List.mem_map.mpr ⟨k, List.mem_range.mpr hk, rfl⟩⟩
    exact ⟨h _ (m 0 (by decide)), h _ (m 1 (by decide)), h _ (m 2 (by decide)), h _ (m 3 (by decide))⟩
  · rintro h ⟨r, k⟩ hx
    obtain ⟨r', hr, hx⟩ := List.mem_flatMap.mp hx
    obtain ⟨k', hk, hx⟩ := List.mem_map.mp hx
    cases hx
    obtain ⟨h0, h1, h2, h3⟩ := h r (List.mem_range.mp hr)
    have := List.mem_range.mp hk
    match k, this with
    | 0, _ => exact h0
    | 1, _ => exact h1
    | 2, _ => exact h2
    | 3, _ => exact h3
theorem good_iff {as bs cs ds : List Int} {c : List Int × Str} : goodC as bs cs ds c = true ↔ Fits as bs cs ds (sgO c.1 c.2) := by
  unfold goodC beyN lacB
  rw [Bool.and_eq_true, decide_eq_true_eq, List.countP_eq_zero, Bool.not_eq_true', List.any_eq_false, cells_all, cells_all]
  unfold Fits
  generalize sgO c.1 c.2 = sg
  have e4 : at4 as bs cs ds 0 = as ∧ at4 as bs cs ds 1 = bs ∧ at4 as bs cs ds 2 = cs ∧ at4 as bs cs ds 3 = ds := ⟨rfl, rfl, rfl, rfl⟩
  have m4 : ∀ r, mayK sg r 0 = mRead sg r ∧ mayK sg r 1 = mWrite sg r ∧ mayK sg r 2 = mRun sg r ∧ mayK sg r 3 = mCall sg r := fun r => ⟨rfl, rfl, rfl, rfl⟩
  have tw : ∀ (a b : Bool), (¬ (a && !b) = true ∧ ¬ (b && !a) = true) ↔ a = b := by decide
  constructor
  · rintro ⟨h1, h2⟩ r hr
    have a := h1 r hr
    have b := h2 r hr
    simp only [e4, m4] at a b
    exact ⟨(tw _ _).mp ⟨a.1, b.1⟩, (tw _ _).mp ⟨a.2.1, b.2.1⟩, (tw _ _).mp ⟨a.2.2.1, b.2.2.1⟩, (tw _ _).mp ⟨a.2.2.2, b.2.2.2⟩⟩
  · intro h
    refine ⟨fun r hr => ?_, fun r hr => ?_⟩
    · have a := h r hr
      simp only [e4, m4]
      exact ⟨((tw _ _).mpr a.1).1, ((tw _ _).mpr a.2.1).1, ((tw _ _).mpr a.2.2.1).1, ((tw _ _).mpr a.2.2.2).1⟩
    · have a := h r hr
      simp only [e4, m4]
      exact ⟨((tw _ _).mpr a.1).2, ((tw _ _).mpr a.2.1).2, ((tw _ _).mpr a.2.2.1).2, ((tw _ _).mpr a.2.2.2).2⟩
def Rgs (n : Nat) (as bs cs ds : List Int) : Prop := ∀ zs ∈ ([as, bs, cs, ds] : List (List Int)), zs.length ≤ n ∧ ∀ z ∈ zs, 0 ≤ z ∧ z < 8
theorem ri_bits : ∀ ri ∈ rightsO, ri = (if has 114 ri = true then "r" else "") ++ (if has 119 ri = true then "w" else "") ++ (if has 120 ri = true then "x" else "") := by decide +kernel
theorem rgt_mem (as bs cs ds : List Int) : rgtS as bs cs ds ∈ rightsO := by
  have h : ∀ a b c : Bool, ((if a = true then "" else "r") ++ (if b = true then "" else "w") ++ (if c = true then "" else "x") : Str) ∈ rightsO := by decide +kernel
  have := h (decide (as = [])) (decide (bs = [])) (decide (cs = [] ∧ ds = []))
  simp only [decide_eq_true_eq] at this
  exact this
theorem ne_nil_of {as : List Int} : as ≠ [] ↔ ∃ z, z ∈ as := ⟨fun h => List.exists_mem_of_ne_nil _ h, fun ⟨z, hz⟩ e => by rw [e] at hz; cases hz⟩
theorem fits_ri {n : Nat} {as bs cs ds : List Int} {a b c : Int} {ri : Str} (hR : Rgs n as bs cs ds) (h0 : 0 ≤ a) (h1 : a ≤ b) (h2 : b ≤ c) (h3 : c ≤ 7) (hri : ri ∈ rightsO) (hf : Fits as bs cs ds (sgO [a, b, c] ri)) : ri = rgtS as bs cs ds := by
  have Ra := (hR as (by simp)).2
  have Rb := (hR bs (by simp)).2
  have Rc := (hR cs (by simp)).2
  have Rd := (hR ds (by simp)).2
  have lift : ∀ z : Int, 0 ≤ z → z < 8 → ∃ r : Nat, r < 8 ∧ (r : Int) = z := fun z p q => ⟨z.toNat, by omega, by omega⟩
  have hr : has 114 ri = true ↔ as ≠ [] := by
    rw [ne_nil_of]
    constructor
    · intro h
      refine ⟨0, ?_⟩
      have := (hf 0 (by decide)).1
      unfold mRead sgO at this
      simp only [h, Bool.true_and, List.getD_cons_zero, List.getD_cons_succ] at this
      have e : decide ((((0 : Nat) : Int)) ≤ b) = true := decide_eq_true (by omega)
      rw [e] at this
      exact of_decide_eq_true this.symm
    · rintro ⟨z, hz⟩
      obtain ⟨r, hr, rfl⟩ := lift z (Ra z hz).1 (Ra z hz).2
      have := (hf r hr).1
      rw [decide_eq_true hz] at this
      unfold mRead sgO at this
      exact (Bool.and_eq_true _ _ ▸ this).1
  have hw : has 119 ri = true ↔ bs ≠ [] := by
    rw [ne_nil_of]
    constructor
    · intro h
      refine ⟨0, ?_⟩
      have := (hf 0 (by decide)).2.1
      unfold mWrite sgO at this
      simp only [h, Bool.true_and, List.getD_cons_zero, List.getD_cons_succ] at this
      have e : decide ((((0 : Nat) : Int)) ≤ a) = true := decide_eq_true (by omega)
      rw [e] at this
      exact of_decide_eq_true this.symm
    · rintro ⟨z, hz⟩
      obtain ⟨r, hr, rfl⟩ := lift z (Rb z hz).1 (Rb z hz).2
      have := (hf r hr).2.1
      rw [decide_eq_true hz] at this
      unfold mWrite sgO at this
      exact (Bool.and_eq_true _ _ ▸ this).1
  have hx : has 120 ri = true ↔ ¬ (cs = [] ∧ ds = []) := by
    constructor
    · intro h hn
      obtain ⟨r, hr, e⟩ := lift a h0 (by omega)
      have := (hf r hr).2.2.1
      unfold mRun sgO at this
      simp only [h, Bool.true_and, List.getD_cons_zero, List.getD_cons_succ] at this
      rw [e, decide_eq_true (show a ≤ a by omega), decide_eq_true h1, hn.1] at this
      simp at this
    · intro hn
      by_cases hc : cs = []
      · have hd : ds ≠ [] := fun e => hn ⟨hc, e⟩
        obtain ⟨z, hz⟩ := ne_nil_of.mp hd
        obtain ⟨r, hr, rfl⟩ := lift z (Rd z hz).1 (Rd z hz).2
        have := (hf r hr).2.2.2
        rw [decide_eq_true hz] at this
        unfold mCall sgO at this
        exact (Bool.and_eq_true _ _ ▸ this).1
      · obtain ⟨z, hz⟩ := ne_nil_of.mp hc
        obtain ⟨r, hr, rfl⟩ := lift z (Rc z hz).1 (Rc z hz).2
        have := (hf r hr).2.2.1
        rw [decide_eq_true hz] at this
        unfold mRun sgO at this
        exact (Bool.and_eq_true _ _ ▸ this).1
  have e := ri_bits ri hri
  rw [e]
  unfold rgtS
  have sw : ∀ {p : Bool} {q : Prop} [Decidable q] (x : String), (p = true ↔ ¬ q) → (if p = true then x else "") = (if q then "" else x) := fun {p q} _ x h => by
    by_cases hq : q
    · rw [if_pos hq, if_neg (fun z => h.mp z hq)]
    · rw [if_neg hq, if_pos (h.mpr hq)]
  rw [sw "r" hr, sw "w" hw, sw "x" hx]
def chD (c : List Int × Str) : PyData := .tuple [triD c.1, .str c.2]
def chF (L : List (List Int)) : List (List Int × Str) := L.flatMap fun l => rightsO.map fun ri => (l, ri)
def optD : Option (List Int × Str) → PyData
  | none => .none
  | some c => chD c
theorem find_one {α : Type} {p : α → Bool} {x : α} : ∀ {l : List α}, x ∈ l → (∀ y ∈ l, p y = true → y = x) → l.find? p = if p x = true then some x else none
  | a :: l, hx, hu => by
    rw [List.find?_cons]
    cases ha : p a with
    | true =>
      have := hu a (by simp) ha
      subst this
      rw [if_pos ha]
    | false =>
      dsimp only
      by_cases hxa : x ∈ l
      · exact find_one hxa fun y hy => hu y (by simp [hy])
      · have : x = a := by simpa [hxa] using hx
        subst this
        rw [if_neg (by rw [ha]; exact fun z => nomatch z), List.find?_eq_none]
        intro y hy hp
        have := hu y (by simp [hy]) hp
        subst this
        exact hxa hy
theorem find_ch {n : Nat} {as bs cs ds : List Int} (hR : Rgs n as bs cs ds) : ∀ L : List (List Int), (∀ l ∈ L, l ∈ allB) → (chF L).find? (goodC as bs cs ds) = (L.find? fun l => fitD as bs cs ds l (rgtS as bs cs ds)).map fun l => (l, rgtS as bs cs ds)
  | [], _ => rfl
  | l :: L, h => by
    have ih := find_ch hR L fun x hx => h x (by simp [hx])
    obtain ⟨a, b, c, rfl, h0, h1, h2, h3⟩ := mem_allB (h l (by simp))
    have e : chF ([a, b, c] :: L) = (rightsO.map fun ri => ([a, b, c], ri)) ++ chF L := List.flatMap_cons
    rw [e, List.find?_append, ih, List.find?_map, find_one (p := goodC as bs cs ds ∘ fun ri => ([a, b, c], ri)) (x := rgtS as bs cs ds) (rgt_mem as bs cs ds) fun ri hri hp => fits_ri hR h0 h1 h2 h3 hri (good_iff.mp hp), List.find?_cons]
    have eg : (goodC as bs cs ds ∘ fun ri => ([a, b, c], ri)) (rgtS as bs cs ds) = fitD as bs cs ds [a, b, c] (rgtS as bs cs ds) := Bool.eq_iff_iff.mpr (good_iff.trans fitD_iff.symm)
    rw [eg]
    cases fitD as bs cs ds [a, b, c] (rgtS as bs cs ds) <;> rfl
theorem due_bf {n : Nat} {as bs cs ds : List Int} (h : Rgs n as bs cs ds) : bfD as bs cs ds = optD (choices.find? (goodC as bs cs ds)) := by
  have := find_ch h allB fun l hl => hl
  rw [show choices = chF allB from rfl, this]
  unfold bfD
  cases allB.find? fun l => fitD as bs cs ds l (rgtS as bs cs ds) <;> rfl
theorem tri_lay (l : List Int) (h : l.length ≤ 1000) : (triD l).canLay0 = true ∧ okN 2 (triD l) := by
  refine ⟨?_, ?_⟩
  · unfold triD
    rw [PyData.canLay0]
    exact lay_map l fun _ _ => rfl
  · exact ⟨by rw [List.length_map]; omega, fun z hz => ok_ints l 0 z hz⟩
theorem ri_lay : ∀ ri ∈ rightsO, PyData.canLayAll0 [PyData.str ri] = true := by decide +kernel
theorem ch_shaped {c : List Int × Str} (h : c.1.length ≤ 1000) (hr : c.2 ∈ rightsO) : SeqAt.shaped (chD c) = true := by
  obtain ⟨h1, h2⟩ := tri_lay c.1 h
  refine shaped_of (j := 3) ?_ ?_ (by decide)
  · unfold chD
    rw [PyData.canLay0, PyData.canLayAll0, h1, ri_lay _ hr]
    rfl
  · exact ⟨by show 2 ≤ 1000000; decide, fun z hz => by
      simp only [List.mem_cons, List.not_mem_nil, or_false] at hz
      rcases hz with rfl | rfl
      · exact h2
      · trivial⟩
theorem mem_choices {c : List Int × Str} (h : c ∈ choices) : c.1 ∈ allB ∧ c.2 ∈ rightsO := by
  obtain ⟨l, hl, h⟩ := List.mem_flatMap.mp h
  obtain ⟨ri, hri, rfl⟩ := List.mem_map.mp h
  exact ⟨hl, hri⟩
theorem bf_shaped {n : Nat} {as bs cs ds : List Int} (h : Rgs n as bs cs ds) : SeqAt.shaped (bfD as bs cs ds) = true := by
  rw [due_bf h]
  cases hf : choices.find? (goodC as bs cs ds) with
  | none => rfl
  | some c =>
    obtain ⟨a, b, d, e, _⟩ := mem_allB (mem_choices (List.mem_of_find?_eq_some hf)).1
    exact ch_shaped (by rw [e]; show 3 ≤ 1000; decide) (mem_choices (List.mem_of_find?_eq_some hf)).2

end
end Rg

namespace Rg
open PySem PySem.Spec L2
local macro_rules | `(tactic| walk_at "rd1") => `(tactic| first
  | with_reducible refine rd_seq ?_
  | with_reducible refine rd_asg ?_
  | ((with_reducible show tVar _ _ _ _); refine rd_var rfl ?_)
  | with_reducible refine rd_c ?_
  | with_reducible refine rd_op ?_
  | with_reducible refine rd_I0 ?_
  | with_reducible refine rd_name ?_
  | with_reducible refine rd_ret ?_
  | with_reducible refine rd_ifs ?_
  | with_reducible refine rd_test ?_
  | with_reducible refine rd_tB ?_
  | with_reducible refine rd_bl ?_
  | with_reducible refine rd_drop ?_
  | with_reducible refine rd_nil ?_
  | with_reducible refine rd_cons ?_
  | with_reducible refine rd_call ?_
  | with_reducible refine rd_cb ?_
  | with_reducible refine rd_tup ?_
  | with_reducible refine rd_lst ?_
  | with_reducible refine rd_and ?_
  | with_reducible refine rd_or ?_
  | with_reducible refine rd_not ?_
  | with_reducible refine rd_andV ?_
  | with_reducible refine rd_orV ?_
  | with_reducible refine rd_notV ?_
  | with_reducible refine rd_chain ?_
  | with_reducible refine rd_un ?_
  | with_reducible refine rd_isN ?_
  | with_reducible refine rd_bm ?_
  | with_reducible refine rd_bm0 ?_
  | with_reducible refine rd_gsub ?_
  | with_reducible refine rd_sl ?_
  | with_reducible refine rd_gt ?_
  | with_reducible refine rd_yes ?_
  | with_reducible refine rd_gcons ?_
  | with_reducible refine rd_gnil ?_
  | with_reducible refine rd_part ?_
  | with_reducible refine rd_nopart ?_
  | ((with_reducible show gTup _ _ _ _ _ _ _); refine rd_gtup (by first | assumption | exact upd_same) rfl ?_)
  | ((with_reducible show gLst _ _ _ _ _ _ _); refine rd_glst (by first | assumption | exact upd_same) rfl ?_)
  | ((with_reducible show rIsi _ _ _ _); first | refine rd_isi (b := true) (.ty _) (.base (by first | exact .int _ | exact .str _ | exact .bl _ | exact .non | exact .tup (by assumption) | exact .lst (by assumption))) (kit_ty (by decide +kernel)) ?_ | refine rd_isi (b := false) (.ty _) (.base (by first | exact .int _ | exact .str _ | exact .bl _ | exact .non | exact .tup (by assumption) | exact .lst (by assumption))) (kit_ty (by decide +kernel)) ?_)
  | with_reducible refine rd_fld ?_
  | with_reducible refine rd_sfld ?_
  | with_reducible refine rd_meth ?_
  | with_reducible refine rd_make ?_
  | with_reducible refine rd_makeK ?_
  | with_reducible refine rd_U ?_
  | with_reducible refine rd_makeKS ?_
  | with_reducible refine rd_callN ?_
  | with_reducible refine rd_rs ?_
  | with_reducible refine rd_rf ?_
  | with_reducible refine rd_star ?_
  | with_reducible refine rd_callS ?_
  | with_reducible refine rd_for ?_
  | with_reducible refine rd_lc ?_
  | with_reducible refine rd_ilist ?_
  | with_reducible refine rd_itup ?_
  | with_reducible refine rd_irng ?_
  | with_reducible refine rd_izipS ?_
  | with_reducible refine rd_ienum ?_
  | with_reducible refine rd_ienT ?_
  | with_reducible refine rd_next ?_
  | with_reducible refine rd_eq rfl ?_
  | with_reducible refine rd_ne rfl ?_
  | with_reducible refine iteT ?_
  | with_reducible refine iteF ?_
  | with_reducible refine rd_ifnT ?_
  | with_reducible refine rd_ifnF ?_
  | ((with_reducible show rI (fun _ j => (0 : Int) < j) _ _ _ _ _); refine rd_mod (by omega) ?_)
  | with_reducible refine rd_new rfl ?_
  | ((with_reducible show rIxL _ _ (V.int 0) _ _); refine rd_ixL0 (by first | assumption | exact upd_same) ?_)
  | ((with_reducible show rIxL _ _ _ _ _); refine rd_ixL (by first | assumption | exact upd_same) rfl ?_)
  | ((with_reducible show rSetL _ _ _ _ _); refine rd_setL (by first | assumption | exact upd_same) rfl ?_)
  | ((with_reducible show rI CMul _ _ _ _ _); refine rd_mul (by first | exact Or.inl ⟨by omega, by omega⟩ | exact Or.inr ⟨by omega, by omega⟩) ?_)
  | ((with_reducible show tyV _ "list" _ _ ∧ _); refine rd_tyL (by first | assumption | exact upd_same) ?_)
  | ((with_reducible show rIxT _ _ (V.int 0) _ _); refine rd_ixT0 (by first | assumption | exact upd_same) ?_)
  | ((with_reducible show rIxT _ _ _ _ _); refine rd_ixT (by first | assumption | exact upd_same) rfl ?_))
local macro_rules | `(tactic| walk_at "rdn1") => `(tactic| first
  | with_reducible refine rd_seq ?_
  | with_reducible refine rd_asg ?_
  | ((with_reducible show tVar _ _ _ _); refine rd_var rfl ?_)
  | with_reducible refine rd_c ?_
  | with_reducible refine rd_op ?_
  | with_reducible refine rd_I0 ?_
  | with_reducible refine rd_name ?_
  | with_reducible refine rd_ret ?_
  | with_reducible refine rd_ifs ?_
  | with_reducible refine rd_test ?_
  | with_reducible refine rd_tB ?_
  | with_reducible refine rd_bl ?_
  | with_reducible refine rd_drop ?_
  | with_reducible refine rd_nil ?_
  | with_reducible refine rd_cons ?_
  | with_reducible refine rd_call ?_
  | with_reducible refine rd_cb ?_
  | with_reducible refine rd_tup ?_
  | with_reducible refine rd_lst ?_
  | with_reducible refine rd_and ?_
  | with_reducible refine rd_or ?_
  | with_reducible refine rd_not ?_
  | with_reducible refine rd_notV ?_
  | with_reducible refine rd_chain ?_
  | with_reducible refine rd_un ?_
  | with_reducible refine rd_isN ?_
  | with_reducible refine rd_bm ?_
  | with_reducible refine rd_bm0 ?_
  | with_reducible refine rd_gsub ?_
  | with_reducible refine rd_sl ?_
  | with_reducible refine rd_gt ?_
  | with_reducible refine rd_yes ?_
  | with_reducible refine rd_gcons ?_
  | with_reducible refine rd_gnil ?_
  | with_reducible refine rd_part ?_
  | with_reducible refine rd_nopart ?_
  | ((with_reducible show gTup _ _ _ _ _ _ _); refine rd_gtup (by first | assumption | exact upd_same) rfl ?_)
  | ((with_reducible show gLst _ _ _ _ _ _ _); refine rd_glst (by first | assumption | exact upd_same) rfl ?_)
  | ((with_reducible show rIsi _ _ _ _); first | refine rd_isi (b := true) (.ty _) (.base (by first | exact .int _ | exact .str _ | exact .bl _ | exact .non | exact .tup (by assumption) | exact .lst (by assumption))) (kit_ty (by decide +kernel)) ?_ | refine rd_isi (b := false) (.ty _) (.base (by first | exact .int _ | exact .str _ | exact .bl _ | exact .non | exact .tup (by assumption) | exact .lst (by assumption))) (kit_ty (by decide +kernel)) ?_)
  | with_reducible refine rd_fld ?_
  | with_reducible refine rd_sfld ?_
  | with_reducible refine rd_meth ?_
  | with_reducible refine rd_make ?_
  | with_reducible refine rd_makeK ?_
  | with_reducible refine rd_U ?_
  | with_reducible refine rd_makeKS ?_
  | with_reducible refine rd_callN ?_
  | with_reducible refine rd_rs ?_
  | with_reducible refine rd_rf ?_
  | with_reducible refine rd_star ?_
  | with_reducible refine rd_callS ?_
  | with_reducible refine rd_for ?_
  | with_reducible refine rd_lc ?_
  | with_reducible refine rd_ilist ?_
  | with_reducible refine rd_itup ?_
  | with_reducible refine rd_irng ?_
  | with_reducible refine rd_izipS ?_
  | with_reducible refine rd_ienum ?_
  | with_reducible refine rd_ienT ?_
  | with_reducible refine rd_next ?_
  | with_reducible refine rd_eq rfl ?_
  | with_reducible refine rd_ne rfl ?_
  | with_reducible refine iteT ?_
  | with_reducible refine iteF ?_
  | with_reducible refine rd_ifnT ?_
  | with_reducible refine rd_ifnF ?_
  | ((with_reducible show rI (fun _ j => (0 : Int) < j) _ _ _ _ _); refine rd_mod (by omega) ?_)
  | with_reducible refine rd_new rfl ?_
  | ((with_reducible show rIxL _ _ (V.int 0) _ _); refine rd_ixL0 (by first | assumption | exact upd_same) ?_)
  | ((with_reducible show rIxL _ _ _ _ _); refine rd_ixL (by first | assumption | exact upd_same) rfl ?_)
  | ((with_reducible show rSetL _ _ _ _ _); refine rd_setL (by first | assumption | exact upd_same) rfl ?_)
  | ((with_reducible show rI CMul _ _ _ _ _); refine rd_mul (by first | exact Or.inl ⟨by omega, by omega⟩ | exact Or.inr ⟨by omega, by omega⟩) ?_)
  | ((with_reducible show tyV _ "list" _ _ ∧ _); refine rd_tyL (by first | assumption | exact upd_same) ?_)
  | ((with_reducible show rIxT _ _ (V.int 0) _ _); refine rd_ixT0 (by first | assumption | exact upd_same) ?_)
  | ((with_reducible show rIxT _ _ _ _ _); refine rd_ixT (by first | assumption | exact upd_same) rfl ?_))
local macro_rules | `(tactic| walk_at "rd") => `(tactic| (repeat (first | walk_at "rd1" | dsimp only)))
local macro_rules | `(tactic| walk_at "rds") => `(tactic| (dsimp only [cxOf, Cx.nox, Cx.wish, Cx.blk, L2.start]; walk_at "rd"))
local macro_rules | `(tactic| walk_at "rdn") => `(tactic| (repeat (first | walk_at "rdn1" | dsimp only)))
section
variable {P : Program} {w : World} {K : PySem.W.Frag} {mg : Str → Option Value} {base : Heap}

def bF (g l c f : V) : List (Key × V) := [((Sum.inr ("great" : Str) : Key), g), ((Sum.inr ("left" : Str) : Key), l), ((Sum.inr ("turn" : Str) : Key), c), ((Sum.inr ("fold" : Str) : Key), f)]
theorem sk_merge {v0 v1 v2 v3 : V} : mergeK [] ([((Sum.inr ("great" : Str) : Key), v0), ((Sum.inr ("left" : Str) : Key), v1), ((Sum.inr ("turn" : Str) : Key), v2), ((Sum.inr ("fold" : Str) : Key), v3)] : List (Key × V)) = bF v0 v1 v2 v3 := by unfold mergeK bF; rw [List.foldl_cons, put_no rfl, List.foldl_cons, put_no (by show valV [_] _ = none; rw [valV_neg (by dsimp only; decide +kernel)]; rfl), List.foldl_cons, put_no (by show valV [_, _] _ = none; rw [valV_neg (by dsimp only; decide +kernel)]; rw [valV_neg (by dsimp only; decide +kernel)]; rfl), List.foldl_cons, put_no (by show valV [_, _, _] _ = none; rw [valV_neg (by dsimp only; decide +kernel)]; rw [valV_neg (by dsimp only; decide +kernel)]; rw [valV_neg (by dsimp only; decide +kernel)]; rfl), List.foldl_nil]; rfl
theorem bF_great {v0 v1 v2 v3 : V} : valV (bF v0 v1 v2 v3) (Sum.inr ("great" : Str) : Key) = some v0 := by unfold bF; rw [valV_pos rfl]
theorem bF_left {v0 v1 v2 v3 : V} : valV (bF v0 v1 v2 v3) (Sum.inr ("left" : Str) : Key) = some v1 := by unfold bF; rw [valV_neg (by dsimp only; decide +kernel)]; rw [valV_pos rfl]
theorem bF_turn {v0 v1 v2 v3 : V} : valV (bF v0 v1 v2 v3) (Sum.inr ("turn" : Str) : Key) = some v2 := by unfold bF; rw [valV_neg (by dsimp only; decide +kernel)]; rw [valV_neg (by dsimp only; decide +kernel)]; rw [valV_pos rfl]
theorem bF_fold {v0 v1 v2 v3 : V} : valV (bF v0 v1 v2 v3) (Sum.inr ("fold" : Str) : Key) = some v3 := by unfold bF; rw [valV_neg (by dsimp only; decide +kernel)]; rw [valV_neg (by dsimp only; decide +kernel)]; rw [valV_neg (by dsimp only; decide +kernel)]; rw [valV_pos rfl]
theorem bP_left {v0 v1 v2 v3 y : V} : putK (bF v0 v1 v2 v3) (Sum.inr ("left" : Str) : Key) y = bF v0 y v2 v3 := by unfold bF; rw [put_neg (by dsimp only; decide +kernel) (by rw [valV_pos rfl]; rfl)]; rw [put_pos (by rw [valV_neg (by dsimp only; decide +kernel)]; rw [valV_neg (by dsimp only; decide +kernel)]; rfl)]
theorem bP_turn {v0 v1 v2 v3 y : V} : putK (bF v0 v1 v2 v3) (Sum.inr ("turn" : Str) : Key) y = bF v0 v1 y v3 := by unfold bF; rw [put_neg (by dsimp only; decide +kernel) (by rw [valV_neg (by dsimp only; decide +kernel)]; rw [valV_pos rfl]; rfl)]; rw [put_neg (by dsimp only; decide +kernel) (by rw [valV_pos rfl]; rfl)]; rw [put_pos (by rw [valV_neg (by dsimp only; decide +kernel)]; rfl)]
/-- a bag of draws: a dict and a list -/
structure Sack (H : Hp) (t g : Addr) (n : Nat) : Prop where
  ne : t ≠ g
  ex : ∃ (gs : List Int) (l f c : Int), H t = some (.dK (bF (.ref g) (.int l) (.int c) (.int f))) ∧ H g = some (.lst (gs.map V.int)) ∧ (∀ z ∈ gs, 0 ≤ z) ∧ 0 ≤ l ∧ 0 ≤ f ∧ f < 2305843009213693952 ∧ 0 ≤ c ∧ c ≤ (n : Int)
theorem Sack.mono {H : Hp} {t g : Addr} {n m : Nat} (T : Sack H t g n) (h : n ≤ m) : Sack H t g m := by
  obtain ⟨ne, gs, l, f, c, h1, h2, h3, h4, h5, h6, h7, h8⟩ := T
  exact ⟨ne, gs, l, f, c, h1, h2, h3, h4, h5, h6, h7, by omega⟩
theorem Sack.same {H H' : Hp} {t g : Addr} {n : Nat} (T : Sack H t g n) (s : Same H H') : Sack H' t g n := by
  obtain ⟨ne, gs, l, f, c, h1, h2, h3⟩ := T
  exact ⟨ne, gs, l, f, c, s _ _ h1, s _ _ h2, h3⟩
theorem Sack.new {H : Hp} {t g p : Addr} {n : Nat} {o : HO} (T : Sack H t g n) (h : H p = none) : Sack (upd H p o) t g n := T.same (same_upd h)
theorem Sack.put {H : Hp} {t g p : Addr} {n : Nat} {o : HO} (T : Sack H t g n) (h1 : p ≠ t) (h2 : p ≠ g) : Sack (upd H p o) t g n := by
  obtain ⟨ne, gs, l, f, c, e1, e2, h3⟩ := T
  exact ⟨ne, gs, l, f, c, by rw [upd_ne (Ne.symm h1)]; exact e1, by rw [upd_ne (Ne.symm h2)]; exact e2, h3⟩
theorem Sack.ht {H : Hp} {t g : Addr} {n : Nat} (T : Sack H t g n) : ∃ xs, H t = some (.dK xs) := by
  obtain ⟨_, _, _, _, _, e, _⟩ := T
  exact ⟨_, e⟩
theorem Sack.hg {H : Hp} {t g : Addr} {n : Nat} (T : Sack H t g n) : ∃ xs, H g = some (.lst xs) := by
  obtain ⟨_, _, _, _, _, _, e, _⟩ := T
  exact ⟨_, e⟩
/-- a place that was free is none of the tray's -/
theorem Sack.net {H : Hp} {t g p : Addr} {n : Nat} (T : Sack H t g n) (h : H p = none) : p ≠ t := by
  obtain ⟨_, e⟩ := T.ht
  exact Ne.symm (ne_of_none e h)
theorem Sack.neg {H : Hp} {t g p : Addr} {n : Nat} (T : Sack H t g n) (h : H p = none) : p ≠ g := by
  obtain ⟨_, e⟩ := T.hg
  exact Ne.symm (ne_of_none e h)
theorem Sack.netT {H : Hp} {t g p : Addr} {n : Nat} {xs : List V} (T : Sack H t g n) (h : H p = some (.tup xs)) : p ≠ t := by
  obtain ⟨_, e⟩ := T.ht
  exact ne_of h e (fun z => nomatch z)
theorem Sack.negT {H : Hp} {t g p : Addr} {n : Nat} {xs : List V} (T : Sack H t g n) (h : H p = some (.tup xs)) : p ≠ g := by
  obtain ⟨_, e⟩ := T.hg
  exact ne_of h e (fun z => nomatch z)
theorem Kp.sk {t g : Addr} {H H' : Hp} {n : Nat} (k : Kp t g H H') (T : Sack H t g n) : Tk H H' := fun b xs e => k b _ e (T.netT e) (T.negT e)

/-! ### a comprehension of drawn things -/
def SackL (t g D : Addr) (H1 : Hp) (n0 c : Nat) (Pd : PyData → Prop) (i : Nat) (H' : Hp) : Prop :=
  ∃ (vs : List V) (ds : List PyData), H' D = some (.lst vs) ∧ RpAll H' vs ds ∧ ds.length = i ∧ (∀ d ∈ ds, Pd d) ∧ Sack H' t g (n0 + c * i) ∧ Kp t g H1 H'
theorem SackL.start {t g D : Addr} {H1 : Hp} {n0 c : Nat} {Pd : PyData → Prop} (T : Sack H1 t g n0) (hD : H1 D = none) : SackL t g D H1 n0 c Pd 0 (upd H1 D (.lst [])) :=
  ⟨[], [], upd_same, .nil, rfl, fun _ h => (nomatch h), (T.new hD).mono (by omega), Kp.new hD⟩
theorem SackL.deck {t g D : Addr} {H1 H2 : Hp} {n0 c i : Nat} {Pd : PyData → Prop} (h : SackL t g D H1 n0 c Pd i H2) : Sack H2 t g (n0 + c * i) := by
  obtain ⟨_, _, _, _, _, _, T, _⟩ := h
  exact T
theorem SackL.step {t g D : Addr} {H1 H2 H4 : Hp} {n0 c i n : Nat} {Pd : PyData → Prop} {y : V} {d : PyData} (h : SackL t g D H1 n0 c Pd i H2) (T1 : Sack H1 t g n0) (hD : H1 D = none) (hi : i ≤ 1000) (T : Sack H4 t g n) (hn : n ≤ n0 + c * i + c) (k : Kp t g H2 H4) (r : Rp H4 y d) (p : Pd d) :
    ∃ acc, H4 D = some (.lst acc) ∧ acc.length < sizeLine ∧ SackL t g D H1 n0 c Pd (i + 1) (upd H4 D (.lst (acc ++ [y]))) := by
  obtain ⟨vs, ds, e, ra, hl, hp, T2, k2⟩ := h
  have e4 : H4 D = some (.lst vs) := k D _ e (T1.net hD) (T1.neg hD)
  have tk : Tk H2 (upd H4 D (.lst (vs ++ [y]))) := (k.sk T2).trans (Tk.lst e4)
  refine ⟨vs, e4, by rw [ra.length, hl]; exact small1000 hi, vs ++ [y], ds ++ [d], upd_same, (ra.keep tk).append (.cons (r.keep (Tk.lst e4)) .nil), by simp [hl], fun z hz => ?_, (T.put (T1.net hD) (T1.neg hD)).mono (by rw [Nat.mul_succ]; omega), (k2.trans k).put hD⟩
  rcases List.mem_append.mp hz with q | q
  · exact hp z q
  · rw [List.mem_singleton.mp q]
    exact p
theorem Sack.kfree {t g D : Addr} {H H' : Hp} {n : Nat} (T : Sack H' t g n) (k : Kp t g H H') (hD : H' D = none) : H D = none := by
  cases e : H D with
  | none => rfl
  | some o =>
    have := k _ _ e (T.net hD) (T.neg hD)
    rw [hD] at this
    cases this
theorem big_div {i m : Int} (h0 : 0 < m) (h1 : m ≤ 1000000000000000000000000000000000000000000000000000000000000) : CDivW i m := wide_div (b := 200) h0 (Nat.lt_of_le_of_lt (show m.natAbs ≤ 1000000000000000000000000000000000000000000000000000000000000 by omega) (by decide +kernel)) (by decide) (by decide)
theorem mod_nn {a b : Int} (h : 0 < b) : 0 ≤ a % b ∧ a % b < b := ⟨Int.emod_nonneg _ (by omega), Int.emod_lt_of_pos _ h⟩
theorem rd_par {i j : Nat} {ta : TA} {D : Ends} {σ : L2.St} {H : Hp} (h : ta σ H fun vs H1 => ∃ v w, vs = [v, w] ∧ D.nx ((List.set σ i (some v)).set j (some w)) H1) : tPar i j ta D σ H := h
theorem rd_par3 {i j l : Nat} {ta : TA} {D : Ends} {σ : L2.St} {H : Hp} (h : ta σ H fun vs H1 => ∃ u v w, vs = [u, v, w] ∧ D.nx (((List.set σ i (some u)).set j (some v)).set l (some w)) H1) : tPar3 i j l ta D σ H := h
theorem rd_daug {td ty tv : TE} {rd : V → V → Hp → VK → Prop} {D : Ends} {σ : L2.St} {H : Hp} (h : td σ H fun x H1 => ty σ H1 fun y H2 => ∃ a v, x = V.ref a ∧ DGet H2 a y (some v) ∧ tv σ H2 fun y2 H3 => rd v y2 H3 fun z H4 => ∃ H5, DPut H4 a y z H5 ∧ D.nx σ H5) : sDAug td ty tv rd D σ H := h
def spBagK (K : PySem.W.Frag) : Sp := fun vs H Q _ => ∃ (a : Addr) (ns : List Int), vs = [.ref a] ∧ SqL K H a (ns.map V.int) ∧ ns.length ≤ 63 ∧ ∀ (t g : Addr) (H' : Hp), Same H H' → H t = none → H g = none → Sack H' t g 0 → Q (.ref t) H'
theorem ok_bagK {f : Addr} {fd : FuncData} (B : BT mg) (F : Fun K "_law_bag" "_law_bag" s_law_bag f fd) (hm : mg "_law_bag" = some (.ref f)) : Cal P w K mg base "_law_bag" 1 ["script"] (spBagK K) := by
  refine ⟨f, fd, hm, F.kp, F.binds (ps := ["script"]) fun _ _ _ _ _ _ us hl => match us, hl with | [_], _ => rfl, ?_⟩
  refine F.ok sc_law_bag (fun vs H Q E h => ?_) (fun cdv A outer s H vs Q E hr h => ?_)
  · obtain ⟨a, ns, rfl, _⟩ := h
    rfl
  · obtain ⟨a, ns, rfl, hS, hl, k⟩ := h
    refine ⟨_, (pss_cons (ps_par (i := 1) (j := 2) (by rfl) sc_law_bag.nd rfl rfl (by decide) rfl rfl (pa_cons pe_int (pa_cons (pe_lst pa_nil) pa_nil)) (by rfl))
 (pss_cons (ps_for PassesOwn.never rfl (pi_listK (K := K) (pv 0)) (pg_name (i := 3) sc_law_bag.nd rfl (Or.inl rfl))
 (pss_cons (ps_set (i := 1) sc_law_bag.nd rfl (Or.inl rfl) (pe_op op_mod (pe_op op_add (pe_op op_mul (pv 1) pe_int) (pv 3)) pe_int))
 (pss_one (ps_if (pt_cmpR op_ge (pe_callB call_abs rfl B.g_abs (by decide +kernel) (pa_cons (pv 3) pa_nil)) (pe_powc (v := 1000000000000000000) (by decide +kernel) (by decide +kernel)) (nomark _)) (pss_one (ps_expr (pe_bm PySem.F.plainAttrs_list PySem.F.slot_list_append PySem.F.type_list_append mt_append (pv 2) (pa_cons (pe_callB call_abs rfl B.g_abs (by decide +kernel) (pa_cons (pv 3) pa_nil)) pa_nil)))) pss_nil))))
 (pss_one (ps_ret (pe_disp (pps_cons pe_str (pv 2) (pps_cons pe_str pe_int (pps_cons pe_str pe_int (pps_cons pe_str (pv 1) pps_nil)))) rfl rfl (by simp) (by decide)))))), ?_⟩
    walk_at "rds"
    refine rd_par ?_
    walk_at "rd"
    intro g hg
    refine ⟨_, _, rfl, ?_⟩
    walk_at "rd"
    refine ⟨_, rfl, ⟨_, (same_upd hg).seq hS⟩, ?_⟩
    refine for_inv (walk_list (xs := ns.map V.int)) (fun i σ' H' => ∃ (fo : Int) (c1 : Option V) (gs : List Int), σ' = [some (.ref a), some (.int fo), some (.ref g), c1] ∧ 0 ≤ fo ∧ fo < 2305843009213693952 ∧ Same H H' ∧ H' g = some (.lst (gs.map V.int)) ∧ (∀ z ∈ gs, 0 ≤ z) ∧ gs.length ≤ i) ?_ ?_ ?_ ?_
    · exact ⟨_, none, [], rfl, by decide, by decide, same_upd hg, upd_same, fun z hz => (nomatch hz), Nat.le_refl _⟩
    · rintro i σ1 H1 hi ⟨fo, c1, gs, rfl, _, _, s1, _⟩
      exact s1.seq hS
    · rintro B' i x σ1 H1 H2 hi ⟨fo, c1, gs, rfl, f0, f1, s1, hg1, hgs, hgl⟩ ⟨rfl, hx⟩
      rw [List.getElem?_map] at hx
      obtain ⟨z, hz, rfl⟩ := Option.map_eq_some_iff.mp hx
      have hi' : i < 63 := by simp at hi; omega
      walk_at "rd"
      refine ⟨_, rfl, ?_⟩
      walk_at "rd"
      have fm := mod_nn (a := fo * 1000003 + z) (b := 2305843009213693951) (by decide)
      refine rd_ifd (fun hc => ?_) (fun hc => ?_)
      · walk_at "rd"
        refine ⟨_, rfl, ?_⟩
        walk_at "rd"
        refine rd_append hg1 (by rw [List.length_map]; exact small1000 (by omega)) ?_
        walk_at "rd"
        refine ⟨_, _, gs ++ [_], rfl, fm.1, by omega, fun b o e => ?_, upd_same.trans (by rw [List.map_append]; rfl), ?_, by simp; omega⟩
        · rw [upd_ne (ne_of_none e hg)]
          exact s1 b o e
        · intro y hy
          rcases List.mem_append.mp hy with h | h
          · exact hgs y h
          · rw [List.mem_singleton.mp h]
            omega
      · walk_at "rd"
        exact ⟨_, _, gs, rfl, fm.1, by omega, s1, hg1, hgs, by omega⟩
    · rintro σ1 H1 ⟨fo, c1, gs, rfl, f0, f1, s1, hg1, hgs, _⟩
      walk_at "rd"
      intro t ht
      dsimp only [tPairs]
      walk_at "rd"
      refine ⟨upd_same, [((Sum.inr ("great" : Str) : Key), .ref g), ((Sum.inr ("left" : Str) : Key), .int 0), ((Sum.inr ("turn" : Str) : Key), .int 0), ((Sum.inr ("fold" : Str) : Key), .int fo)], rfl, by show 4 ≤ 15; decide, ?_⟩
      rw [sk_merge]
      have ng : g ≠ t := ne_of_none hg1 ht
      refine k t g _ (same_put (s1.trans (same_upd (o := .dK []) ht)) (s1.free ht)) (s1.free ht) hg ⟨ng.symm, gs, 0, fo, 0, upd_same, ?_, hgs, by decide, f0, f1, by decide, by decide⟩
      rw [upd_ne ng, upd_ne ng]
      exact hg1
def spDrawK : Sp := fun vs H Q _ => ∃ (t g : Addr) (n : Nat) (m : Int), vs = [.ref t, .int m] ∧ Sack H t g n ∧ n ≤ 1000000 ∧ 0 < m ∧ m ≤ 1000000000000000000000000000000000000000000000000000000000000 ∧
  ∀ (r : Int) (H' : Hp), 0 ≤ r → r < m → Sack H' t g (n + 1) → Kp t g H H' → Q (.int r) H'
theorem use_drawK {t g : Addr} {n : Nat} {m : Int} {H : Hp} {Q : VK} {E : XK} (T : Sack H t g n) (hn : n ≤ 1000000) (h0 : 0 < m) (h1 : m ≤ 1000000000000000000000000000000000000000000000000000000000000)
    (h : ∀ (r : Int) (H' : Hp), 0 ≤ r → r < m → Sack H' t g (n + 1) → Kp t g H H' → Q (.int r) H') : spDrawK [.ref t, .int m] H Q E := ⟨t, g, n, m, rfl, T, hn, h0, h1, h⟩
theorem ok_drawK {f : Addr} {fd : FuncData} (B : BT mg) (F : Fun K "_law_draw" "_law_draw" s_law_draw f fd) (hm : mg "_law_draw" = some (.ref f)) : Cal P w K mg base "_law_draw" 1 ["bag", "many"] spDrawK := by
  refine ⟨f, fd, hm, F.kp, F.binds (ps := ["bag", "many"]) fun _ _ _ _ _ _ us hl => match us, hl with | [_, _], _ => rfl, ?_⟩
  refine F.ok sc_law_draw (fun vs H Q E h => ?_) (fun cdv A outer s H vs Q E hr h => ?_)
  · obtain ⟨t, g, n, m, rfl, _⟩ := h
    rfl
  · obtain ⟨t, g, n, m, rfl, T, hn, hm0, hm1, k⟩ := h
    refine ⟨_, (pss_cons (ps_if (PW.pt (pw_and (pt_cmpR op_lt (pe_dget (hu_of hr) (pv 0) pe_str (fun _ _ => rfl)) (pv 1) (nomark _)) (pw_and1 (pt_cmpR op_gt (pe_callB (cr_lenS (K := K)) rfl B.g_len PySem.boot_len (pa_cons (pe_dget (hu_of hr) (pv 0) pe_str (fun _ _ => rfl)) pa_nil)) pe_int (nomark _))))) (pss_one (ps_dput (hu_of hr) (pv 0) pe_str (pe_bm PySem.F.plainAttrs_list PySem.F.slot_list_pop PySem.F.type_list_pop mt_popAt (pe_dget (hu_of hr) (pv 0) pe_str (fun _ _ => rfl)) (pa_cons pe_int pa_nil)) rfl)) pss_nil)
 (pss_cons (ps_if (pt_cmpR op_ge (pe_dget (hu_of hr) (pv 0) pe_str (fun _ _ => rfl)) (pv 1) (nomark _)) (pss_cons (ps_set (i := 2) sc_law_draw.nd rfl (Or.inl rfl) (pe_op op_mod (pe_dget (hu_of hr) (pv 0) pe_str (fun _ _ => rfl)) (pv 1)))
 (pss_cons (ps_dput (hu_of hr) (pv 0) pe_str (pe_op op_fdivW (pe_dget (hu_of hr) (pv 0) pe_str (fun _ _ => rfl)) (pv 1)) rfl)
 (pss_one (ps_ret (pv 2))))) pss_nil)
 (pss_cons (ps_daug (hu_of hr) (pv 0) pe_str pe_int in_add (fun _ _ _ => rfl))
 (pss_cons (ps_set (i := 3) sc_law_draw.nd rfl (Or.inl rfl) (pe_dget (hu_of hr) (pv 0) pe_str (fun _ _ => rfl)))
 (pss_cons (ps_set (i := 4) sc_law_draw.nd rfl (Or.inl rfl) (pe_op op_add (pe_op op_mul (pe_op op_add (pe_dget (hu_of hr) (pv 0) pe_str (fun _ _ => rfl)) (pe_op op_mul pe_int (pv 3))) (pe_op op_pow (pe_op op_add (pv 3) pe_int) pe_int)) (pe_op op_mul pe_int (pv 3))))
 (pss_one (ps_ret (pe_op op_mod (pe_op op_fdivW (pe_op op_mod (pe_op op_pow (pe_op op_mod (pv 4) pe_int) pe_int) (pe_op op_add (pe_powc (v := 1000000000000000000) (by decide +kernel) (by decide +kernel)) pe_int)) pe_int) (pv 1))))))))), ?_⟩
    obtain ⟨ne, gs0, l, fo, c, h1, h2, h3, h4, h5, h6, h7, h8⟩ := id T
    dsimp only [cxOf, Cx.nox, Cx.wish, Cx.blk, L2.start]
    refine rd_seqJ (fun σ' H' => σ' = [some (.ref t), some (.int m), none, none, none] ∧ Kp t g H H' ∧ ∃ (gs : List Int) (l : Int), H' t = some (.dK (bF (.ref g) (.int l) (.int c) (.int fo))) ∧ H' g = some (.lst (gs.map V.int)) ∧ (∀ z ∈ gs, 0 ≤ z) ∧ 0 ≤ l) (fun R hR => ?_) ?_
    · walk_at "rdn"
      refine rd_dget ?_
      walk_at "rdn"
      refine ⟨t, _, rfl, dg h1 bF_left, ?_⟩
      walk_at "rdn"
      refine rd_ifd (fun hc => ?_) (fun hc => ?_)
      case refine_2 =>
        walk_at "rdn"
        exact hR _ _ ⟨rfl, Kp.refl _ _ _, gs0, l, h1, h2, h3, h4⟩
      walk_at "rdn"
      refine rd_dget ?_
      walk_at "rdn"
      refine ⟨t, _, rfl, dg h1 bF_great, ?_⟩
      refine ⟨g, _, rfl, .inl (SqL.of h2), ?_⟩
      walk_at "rdn"
      refine rd_ifd (fun hg => ?_) (fun hg => ?_)
      case refine_2 =>
        walk_at "rdn"
        exact hR _ _ ⟨rfl, Kp.refl _ _ _, gs0, l, h1, h2, h3, h4⟩
      cases gs0 with
      | nil => exact absurd hg (by simp)
      | cons z gs =>
        walk_at "rdn"
        refine rd_dput ?_
        walk_at "rdn"
        refine rd_dget ?_
        walk_at "rdn"
        refine ⟨t, _, rfl, dg h1 bF_great, ?_⟩
        refine rd_tyL h2 ?_
        walk_at "rdn"
        refine rd_pop0 h2 ?_
        walk_at "rdn"
        have e1 : upd H g (.lst (gs.map V.int)) t = some (.dK (bF (.ref g) (.int l) (.int c) (.int fo))) := (upd_ne ne).trans h1
        refine ⟨t, _, rfl, DPut.k (k := Sum.inr "left") e1 (by show 4 < _; decide), ?_⟩
        rw [bP_left]
        refine hR _ _ ⟨rfl, Kp.g.trans Kp.t, gs, z, upd_same, by rw [upd_ne ne.symm]; exact upd_same, fun y hy => h3 y (List.mem_cons_of_mem _ hy), h3 z (List.mem_cons_self ..)⟩
    clear h1 h2 h3 h4
    rintro σ1 H1 ⟨rfl, k1, gs, l1, h1, h2, h3, h4⟩
    walk_at "rd"
    refine rd_dget ?_
    walk_at "rd"
    refine ⟨t, _, rfl, dg h1 bF_left, ?_⟩
    walk_at "rd"
    refine rd_ifd (fun hc => ?_) (fun hc => ?_)
    · walk_at "rd"
      refine rd_dget ?_
      walk_at "rd"
      refine ⟨t, _, rfl, dg h1 bF_left, ?_⟩
      walk_at "rd"
      refine rd_dput ?_
      walk_at "rd"
      refine rd_dget ?_
      walk_at "rd"
      refine ⟨t, _, rfl, dg h1 bF_left, ?_⟩
      walk_at "rd"
      refine rd_fdivW (big_div hm0 hm1) ?_
      walk_at "rd"
      refine ⟨t, _, rfl, DPut.k (k := Sum.inr "left") h1 (by show 4 < _; decide), ?_⟩
      rw [bP_left]
      walk_at "rd"
      exact k _ _ (mod_nn hm0).1 (mod_nn hm0).2 ⟨ne, gs, l1 / m, fo, c, upd_same, by rw [upd_ne ne.symm]; exact h2, h3, Int.ediv_nonneg h4 (by omega), h5, h6, h7, by omega⟩ (k1.trans Kp.t)
    walk_at "rd"
    refine rd_daug ?_
    walk_at "rd"
    refine ⟨t, _, rfl, dg h1 bF_turn, ?_⟩
    walk_at "rd"
    refine ⟨c, 1, rfl, rfl, _, DPut.k (k := Sum.inr "turn") h1 (by show 4 < _; decide), ?_⟩
    rw [bP_turn]
    have e1 : upd H1 t (.dK (bF (.ref g) (.int l1) (.int (c + 1)) (.int fo))) t = some (.dK (bF (.ref g) (.int l1) (.int (c + 1)) (.int fo))) := upd_same
    have e2 : upd H1 t (.dK (bF (.ref g) (.int l1) (.int (c + 1)) (.int fo))) g = some (.lst (gs.map V.int)) := (upd_ne ne.symm).trans h2
    have k2 : Kp t g H (upd H1 t (.dK (bF (.ref g) (.int l1) (.int (c + 1)) (.int fo)))) := k1.trans Kp.t
    generalize upd H1 t (.dK (bF (.ref g) (.int l1) (.int (c + 1)) (.int fo))) = H2 at e1 e2 k2
    walk_at "rd"
    refine rd_dget ?_
    walk_at "rd"
    refine ⟨t, _, rfl, dg e1 bF_turn, ?_⟩
    walk_at "rd"
    refine rd_dget ?_
    walk_at "rd"
    refine ⟨t, _, rfl, dg e1 bF_fold, ?_⟩
    walk_at "rd"
    refine rd_pow ⟨by decide, by decide, by omega⟩ ?_
    walk_at "rd"
    refine rd_pow ⟨by decide, by decide, ?_⟩ ?_
    · have := mod_nn (a := (fo + 17 * (c + 1)) * (c + 1 + 29) ^ (2 : Int).toNat + 7919 * (c + 1)) (b := 2305843009213693951) (by decide)
      omega
    walk_at "rd"
    refine rd_fdivW (wide_div (b := 8) (by decide) (by decide) (by decide) (by decide)) ?_
    walk_at "rd"
    exact k _ _ (mod_nn hm0).1 (mod_nn hm0).2 ⟨ne, gs, l1, fo, c + 1, e1, e2, h3, h4, h5, h6, by omega, by omega⟩ k2

end
end Rg

namespace Rg
open PySem PySem.Spec L2
local macro_rules | `(tactic| walk_at "rd1") => `(tactic| first
  | with_reducible refine rd_seq ?_
  | with_reducible refine rd_asg ?_
  | ((with_reducible show tVar _ _ _ _); refine rd_var rfl ?_)
  | with_reducible refine rd_c ?_
  | with_reducible refine rd_op ?_
  | with_reducible refine rd_I0 ?_
  | with_reducible refine rd_name ?_
  | with_reducible refine rd_ret ?_
  | with_reducible refine rd_ifs ?_
  | with_reducible refine rd_test ?_
  | with_reducible refine rd_tB ?_
  | with_reducible refine rd_bl ?_
  | with_reducible refine rd_drop ?_
  | with_reducible refine rd_nil ?_
  | with_reducible refine rd_cons ?_
  | with_reducible refine rd_call ?_
  | with_reducible refine rd_cb ?_
  | with_reducible refine rd_tup ?_
  | with_reducible refine rd_lst ?_
  | with_reducible refine rd_and ?_
  | with_reducible refine rd_or ?_
  | with_reducible refine rd_not ?_
  | with_reducible refine rd_andV ?_
  | with_reducible refine rd_orV ?_
  | with_reducible refine rd_notV ?_
  | with_reducible refine rd_chain ?_
  | with_reducible refine rd_un ?_
  | with_reducible refine rd_isN ?_
  | with_reducible refine rd_bm ?_
  | with_reducible refine rd_bm0 ?_
  | with_reducible refine rd_gsub ?_
  | with_reducible refine rd_sl ?_
  | with_reducible refine rd_gt ?_
  | with_reducible refine rd_yes ?_
  | with_reducible refine rd_gcons ?_
  | with_reducible refine rd_gnil ?_
  | with_reducible refine rd_part ?_
  | with_reducible refine rd_nopart ?_
  | ((with_reducible show gTup _ _ _ _ _ _ _); refine rd_gtup (by first | assumption | exact upd_same) rfl ?_)
  | ((with_reducible show gLst _ _ _ _ _ _ _); refine rd_glst (by first | assumption | exact upd_same) rfl ?_)
  | ((with_reducible show rIsi _ _ _ _); first | refine rd_isi (b := true) (.ty _) (.base (by first | exact .int _ | exact .str _ | exact .bl _ | exact .non | exact .tup (by assumption) | exact .lst (by assumption))) (kit_ty (by decide +kernel)) ?_ | refine rd_isi (b := false) (.ty _) (.base (by first | exact .int _ | exact .str _ | exact .bl _ | exact .non | exact .tup (by assumption) | exact .lst (by assumption))) (kit_ty (by decide +kernel)) ?_)
  | with_reducible refine rd_fld ?_
  | with_reducible refine rd_sfld ?_
  | with_reducible refine rd_meth ?_
  | with_reducible refine rd_make ?_
  | with_reducible refine rd_makeK ?_
  | with_reducible refine rd_U ?_
  | with_reducible refine rd_makeKS ?_
  | with_reducible refine rd_callN ?_
  | with_reducible refine rd_rs ?_
  | with_reducible refine rd_rf ?_
  | with_reducible refine rd_star ?_
  | with_reducible refine rd_callS ?_
  | with_reducible refine rd_for ?_
  | with_reducible refine rd_lc ?_
  | with_reducible refine rd_ilist ?_
  | with_reducible refine rd_itup ?_
  | with_reducible refine rd_irng ?_
  | with_reducible refine rd_izipS ?_
  | with_reducible refine rd_ienum ?_
  | with_reducible refine rd_ienT ?_
  | with_reducible refine rd_next ?_
  | with_reducible refine rd_eq rfl ?_
  | with_reducible refine rd_ne rfl ?_
  | with_reducible refine iteT ?_
  | with_reducible refine iteF ?_
  | with_reducible refine rd_ifnT ?_
  | with_reducible refine rd_ifnF ?_
  | ((with_reducible show rI (fun _ j => (0 : Int) < j) _ _ _ _ _); refine rd_mod (by omega) ?_)
  | with_reducible refine rd_new rfl ?_
  | ((with_reducible show rIxL _ _ (V.int 0) _ _); refine rd_ixL0 (by first | assumption | exact upd_same) ?_)
  | ((with_reducible show rIxL _ _ _ _ _); refine rd_ixL (by first | assumption | exact upd_same) rfl ?_)
  | ((with_reducible show rSetL _ _ _ _ _); refine rd_setL (by first | assumption | exact upd_same) rfl ?_)
  | ((with_reducible show rI CMul _ _ _ _ _); refine rd_mul (by first | exact Or.inl ⟨by omega, by omega⟩ | exact Or.inr ⟨by omega, by omega⟩) ?_)
  | ((with_reducible show tyV _ "list" _ _ ∧ _); refine rd_tyL (by first | assumption | exact upd_same) ?_)
  | ((with_reducible show rIxT _ _ (V.int 0) _ _); refine rd_ixT0 (by first | assumption | exact upd_same) ?_)
  | ((with_reducible show rIxT _ _ _ _ _); refine rd_ixT (by first | assumption | exact upd_same) rfl ?_))
local macro_rules | `(tactic| walk_at "rdn1") => `(tactic| first
  | with_reducible refine rd_seq ?_
  | with_reducible refine rd_asg ?_
  | ((with_reducible show tVar _ _ _ _); refine rd_var rfl ?_)
  | with_reducible refine rd_c ?_
  | with_reducible refine rd_op ?_
  | with_reducible refine rd_I0 ?_
  | with_reducible refine rd_name ?_
  | with_reducible refine rd_ret ?_
  | with_reducible refine rd_ifs ?_
  | with_reducible refine rd_test ?_
  | with_reducible refine rd_tB ?_
  | with_reducible refine rd_bl ?_
  | with_reducible refine rd_drop ?_
  | with_reducible refine rd_nil ?_
  | with_reducible refine rd_cons ?_
  | with_reducible refine rd_call ?_
  | with_reducible refine rd_cb ?_
  | with_reducible refine rd_tup ?_
  | with_reducible refine rd_lst ?_
  | with_reducible refine rd_and ?_
  | with_reducible refine rd_or ?_
  | with_reducible refine rd_not ?_
  | with_reducible refine rd_notV ?_
  | with_reducible refine rd_chain ?_
  | with_reducible refine rd_un ?_
  | with_reducible refine rd_isN ?_
  | with_reducible refine rd_bm ?_
  | with_reducible refine rd_bm0 ?_
  | with_reducible refine rd_gsub ?_
  | with_reducible refine rd_sl ?_
  | with_reducible refine rd_gt ?_
  | with_reducible refine rd_yes ?_
  | with_reducible refine rd_gcons ?_
  | with_reducible refine rd_gnil ?_
  | with_reducible refine rd_part ?_
  | with_reducible refine rd_nopart ?_
  | ((with_reducible show gTup _ _ _ _ _ _ _); refine rd_gtup (by first | assumption | exact upd_same) rfl ?_)
  | ((with_reducible show gLst _ _ _ _ _ _ _); refine rd_glst (by first | assumption | exact upd_same) rfl ?_)
  | ((with_reducible show rIsi _ _ _ _); first | refine rd_isi (b := true) (.ty _) (.base (by first | exact .int _ | exact .str _ | exact .bl _ | exact .non | exact .tup (by assumption) | exact .lst (by assumption))) (kit_ty (by decide +kernel)) ?_ | refine rd_isi (b := false) (.ty _) (.base (by first | exact .int _ | exact .str _ | exact .bl _ | exact .non | exact .tup (by assumption) | exact .lst (by assumption))) (kit_ty (by decide +kernel)) ?_)
  | with_reducible refine rd_fld ?_
  | with_reducible refine rd_sfld ?_
  | with_reducible refine rd_meth ?_
  | with_reducible refine rd_make ?_
  | with_reducible refine rd_makeK ?_
  | with_reducible refine rd_U ?_
  | with_reducible refine rd_makeKS ?_
  | with_reducible refine rd_callN ?_
  | with_reducible refine rd_rs ?_
  | with_reducible refine rd_rf ?_
  | with_reducible refine rd_star ?_
  | with_reducible refine rd_callS ?_
  | with_reducible refine rd_for ?_
  | with_reducible refine rd_lc ?_
  | with_reducible refine rd_ilist ?_
  | with_reducible refine rd_itup ?_
  | with_reducible refine rd_irng ?_
  | with_reducible refine rd_izipS ?_
  | with_reducible refine rd_ienum ?_
  | with_reducible refine rd_ienT ?_
  | with_reducible refine rd_next ?_
  | with_reducible refine rd_eq rfl ?_
  | with_reducible refine rd_ne rfl ?_
  | with_reducible refine iteT ?_
  | with_reducible refine iteF ?_
  | with_reducible refine rd_ifnT ?_
  | with_reducible refine rd_ifnF ?_
  | ((with_reducible show rI (fun _ j => (0 : Int) < j) _ _ _ _ _); refine rd_mod (by omega) ?_)
  | with_reducible refine rd_new rfl ?_
  | ((with_reducible show rIxL _ _ (V.int 0) _ _); refine rd_ixL0 (by first | assumption | exact upd_same) ?_)
  | ((with_reducible show rIxL _ _ _ _ _); refine rd_ixL (by first | assumption | exact upd_same) rfl ?_)
  | ((with_reducible show rSetL _ _ _ _ _); refine rd_setL (by first | assumption | exact upd_same) rfl ?_)
  | ((with_reducible show rI CMul _ _ _ _ _); refine rd_mul (by first | exact Or.inl ⟨by omega, by omega⟩ | exact Or.inr ⟨by omega, by omega⟩) ?_)
  | ((with_reducible show tyV _ "list" _ _ ∧ _); refine rd_tyL (by first | assumption | exact upd_same) ?_)
  | ((with_reducible show rIxT _ _ (V.int 0) _ _); refine rd_ixT0 (by first | assumption | exact upd_same) ?_)
  | ((with_reducible show rIxT _ _ _ _ _); refine rd_ixT (by first | assumption | exact upd_same) rfl ?_))
local macro_rules | `(tactic| walk_at "rd") => `(tactic| (repeat (first | walk_at "rd1" | dsimp only)))
local macro_rules | `(tactic| walk_at "rds") => `(tactic| (dsimp only [cxOf, Cx.nox, Cx.wish, Cx.blk, L2.start]; walk_at "rd"))
local macro_rules | `(tactic| walk_at "rdn") => `(tactic| (repeat (first | walk_at "rdn1" | dsimp only)))
section
variable {P : Program} {w : World} {K : PySem.W.Frag} {mg : Str → Option Value} {base : Heap}

def spMayL : Sp := fun vs H Q _ => ∃ (p : Addr) (r1 r2 r3 r : Int) (ri : Str), vs = [.ref p, .str ri, .int r] ∧ Rp H (.ref p) (triD [r1, r2, r3]) ∧
  ∀ (q : Addr) (H' : Hp), H' q = some (.tup [.bl (mRead (sgO [r1, r2, r3] ri) r), .bl (mWrite (sgO [r1, r2, r3] ri) r), .bl (mRun (sgO [r1, r2, r3] ri) r), .bl (mCall (sgO [r1, r2, r3] ri) r)]) → Same H H' → Q (.ref q) H'
theorem ok_mayL {f : Addr} {fd : FuncData} (B : BT mg) (F : Fun K "_law_may" "_law_may" s_law_may f fd) (hm : mg "_law_may" = some (.ref f)) : Cal P w K mg base "_law_may" 1 ["brackets", "rights", "ring"] spMayL := by
  refine ⟨f, fd, hm, F.kp, F.binds (ps := ["brackets", "rights", "ring"]) fun _ _ _ _ _ _ us hl => match us, hl with | [_, _, _], _ => rfl, ?_⟩
  refine F.ok sc_law_may (fun vs H Q E h => ?_) (fun cdv A outer s H vs Q E hr h => ?_)
  · obtain ⟨p, r1, r2, r3, r, ri, rfl, _⟩ := h
    rfl
  · obtain ⟨p, r1, r2, r3, r, ri, rfl, rp, k⟩ := h
    refine ⟨_, (pss_cons (ps_asg (pv 0) (pg_tup (by rfl) (pgs_cons (pg_name (i := 3) sc_law_may.nd rfl (Or.inl rfl)) (pgs_cons (pg_name (i := 4) sc_law_may.nd rfl (Or.inl rfl)) (pgs_cons (pg_name (i := 5) sc_law_may.nd rfl (Or.inl rfl)) pgs_nil)))))
 (pss_cons (ps_set (i := 6) sc_law_may.nd rfl (Or.inl rfl) (pe_and (pe_cmpR op_in_sign pe_str (pv 1) rfl) (pe_one (pe_cmpR op_le (pv 2) (pv 4) (nomark _)))))
 (pss_cons (ps_set (i := 7) sc_law_may.nd rfl (Or.inl rfl) (pe_and (pe_cmpR op_in_sign pe_str (pv 1) rfl) (pe_one (pe_cmpR op_le (pv 2) (pv 3) (nomark _)))))
 (pss_cons (ps_set (i := 8) sc_law_may.nd rfl (Or.inl rfl) (pe_and (pe_cmpR op_in_sign pe_str (pv 1) rfl) (pe_one (pe_chain op_le op_le (pv 3) (pv 2) (pv 4)))))
 (pss_one (ps_ret (pe_tup (pa_cons (pv 6) (pa_cons (pv 7) (pa_cons (pv 8) (pa_cons (pe_and (pe_cmpR op_in_sign pe_str (pv 1) rfl) (pe_one (pe_chain op_lt op_le (pv 4) (pv 2) (pv 5)))) pa_nil))))))))))), ?_⟩
    obtain ⟨pb, vb, e, hpb, rvb⟩ := rp.tup_inv
    cases e
    have := RpAll.ints_inv (ns := [r1, r2, r3]) rvb
    subst this
    replace hpb : H p = some (.tup [.int r1, .int r2, .int r3]) := hpb
    unfold mRead mWrite mRun mCall has sgO at k
    simp only [List.getD_cons_zero, List.getD_cons_succ] at k
    dsimp only [cxOf, Cx.nox, Cx.wish, Cx.blk, L2.start]
    walk_at "rdn"
    refine rd_joinB (H := H) (decide (114 ∈ ri.cps.toList) && decide (r ≤ r2)) (fun R hR => ?_) ?_
    · walk_at "rd"
      refine ⟨114, ri, rfl, rfl, ?_⟩
      walk_at "rd"
      refine rd_ifd (fun hx => ?_) (fun hx => ?_)
      · rw [decide_eq_true hx] at hR
        walk_at "rd"
        exact hR
      · rw [decide_eq_false hx] at hR
        exact hR
    walk_at "rdn"
    refine rd_joinB (H := H) (decide (119 ∈ ri.cps.toList) && decide (r ≤ r1)) (fun R hR => ?_) ?_
    · walk_at "rd"
      refine ⟨119, ri, rfl, rfl, ?_⟩
      walk_at "rd"
      refine rd_ifd (fun hx => ?_) (fun hx => ?_)
      · rw [decide_eq_true hx] at hR
        walk_at "rd"
        exact hR
      · rw [decide_eq_false hx] at hR
        exact hR
    walk_at "rdn"
    refine rd_joinB (H := H) (decide (120 ∈ ri.cps.toList) && (decide (r1 ≤ r) && decide (r ≤ r2))) (fun R hR => ?_) ?_
    · walk_at "rd"
      refine ⟨120, ri, rfl, rfl, ?_⟩
      walk_at "rd"
      refine rd_ifd (fun hx => ?_) (fun hx => ?_)
      · rw [decide_eq_true hx] at hR
        walk_at "rd"
        refine rd_ifd (fun hy => ?_) (fun hy => ?_)
        · rw [decide_eq_true hy] at hR
          walk_at "rd"
          exact hR
        · rw [decide_eq_false hy] at hR
          exact hR
      · rw [decide_eq_false hx] at hR
        exact hR
    walk_at "rdn"
    refine rd_joinB (H := H) (decide (120 ∈ ri.cps.toList) && (decide (r2 < r) && decide (r ≤ r3))) (fun R hR => ?_) ?_
    · walk_at "rd"
      refine ⟨120, ri, rfl, rfl, ?_⟩
      walk_at "rd"
      refine rd_ifd (fun hx => ?_) (fun hx => ?_)
      · rw [decide_eq_true hx] at hR
        walk_at "rd"
        refine rd_ifd (fun hy => ?_) (fun hy => ?_)
        · rw [decide_eq_true hy] at hR
          walk_at "rd"
          exact hR
        · rw [decide_eq_false hy] at hR
          exact hR
      · rw [decide_eq_false hx] at hR
        exact hR
    walk_at "rd"
    intro q hq
    exact k q _ upd_same (same_upd hq)
theorem chF_len (L : List (List Int)) : (chF L).length = 8 * L.length := by
  unfold chF
  induction L with
  | nil => rfl
  | cons a r ih => rw [List.flatMap_cons, List.length_append, List.length_map, ih]; show 8 + _ = _; rw [List.length_cons]; omega
theorem chF_snoc (L : List (List Int)) (l : List Int) : chF (L ++ [l]) = chF L ++ rightsO.map fun ri => (l, ri) := by
  unfold chF
  rw [List.flatMap_append]
  simp
def spChoices : Sp := fun vs H Q _ => vs = [] ∧ ∀ (D : Addr) (us : List V) (H' : Hp), H D = none → H' D = some (.lst us) → RpAll H' us (choices.map chD) → Same H H' → Q (.ref D) H'
theorem ok_choices {f : Addr} {fd : FuncData} (B : BT mg) (F : Fun K "_law_choices" "_law_choices" s_law_choices f fd) (hm : mg "_law_choices" = some (.ref f)) : Cal P w K mg base "_law_choices" 1 [] spChoices := by
  refine ⟨f, fd, hm, F.kp, F.binds (ps := []) fun _ _ _ _ _ _ us hl => match us, hl with | [], _ => rfl, ?_⟩
  refine F.ok sc_law_choices (fun vs H Q E h => ?_) (fun cdv A outer s H vs Q E hr h => ?_)
  · obtain ⟨rfl, _⟩ := h
    rfl
  · obtain ⟨rfl, k⟩ := h
    refine ⟨_, (pss_cons (ps_set (i := 0) sc_law_choices.nd rfl (Or.inl rfl) (pe_lst pa_nil))
 (pss_cons (ps_for PassesOwn.never rfl (pi_range1 rfl B.g_range (pa_cons pe_int pa_nil)) (pg_name (i := 1) sc_law_choices.nd rfl (Or.inl rfl))
 (pss_one (ps_for PassesOwn.never rfl (pi_range2 rfl B.g_range (pa_cons (pv 1) (pa_cons pe_int pa_nil))) (pg_name (i := 2) sc_law_choices.nd rfl (Or.inl rfl))
 (pss_one (ps_for PassesOwn.never rfl (pi_range2 rfl B.g_range (pa_cons (pv 2) (pa_cons pe_int pa_nil))) (pg_name (i := 3) sc_law_choices.nd rfl (Or.inl rfl))
 (pss_one (ps_for PassesOwn.never rfl (pi_tupK (K := K) (pe_tup (pa_cons pe_str (pa_cons pe_str (pa_cons pe_str (pa_cons pe_str (pa_cons pe_str (pa_cons pe_str (pa_cons pe_str (pa_cons pe_str pa_nil)))))))))) (pg_name (i := 4) sc_law_choices.nd rfl (Or.inl rfl))
 (pss_one (ps_expr (pe_bm PySem.F.plainAttrs_list PySem.F.slot_list_append PySem.F.type_list_append mt_append (pv 0) (pa_cons (pe_tup (pa_cons (pe_tup (pa_cons (pv 1) (pa_cons (pv 2) (pa_cons (pv 3) pa_nil)))) (pa_cons (pv 4) pa_nil))) pa_nil)))))))))))
 (pss_one (ps_ret (pv 0))))), ?_⟩
    walk_at "rds"
    intro D hD
    walk_at "rd"
    refine ⟨8, rfl, by decide, by decide, ?_⟩
    refine for_inv (walk_range (n := 8)) (fun i σ' H' => (∃ c1 c2 c3 c4, σ' = [some (.ref D), c1, c2, c3, c4]) ∧ ∃ us, H' D = some (.lst us) ∧ RpAll H' us ((chF (rows1 i)).map chD) ∧ Same H H') ⟨⟨_, _, _, _, rfl⟩, [], upd_same, .nil, same_upd hD⟩ (fun _ _ _ _ _ => trivial) ?_ ?_
    · rintro B' i x0 σ1 Ha Hb hi ⟨⟨c1, c2, c3, c4, rfl⟩, us, hus, rus, sa⟩ ⟨rfl, rfl⟩
      walk_at "rd"
      refine rd_irng2 ?_
      walk_at "rd"
      refine ⟨_, _, rfl, ⟨by omega, by omega, by decide, by decide⟩, ?_⟩
      have en : (8 - (0 + (i : Int))).toNat = 8 - i := by omega
      rw [en]
      refine for_inv (walk_range (n := 8 - i)) (fun j σ' H' => (∃ c2 c3 c4, σ' = [some (.ref D), some (.int (0 + (i : Int))), c2, c3, c4]) ∧ ∃ us, H' D = some (.lst us) ∧ RpAll H' us ((chF (rows1 i ++ rows2 i j)).map chD) ∧ Same H H') ⟨⟨_, _, _, rfl⟩, us, hus, by rw [show rows2 i 0 = [] from rfl, List.append_nil]; exact rus, sa⟩ (fun _ _ _ _ _ => trivial) ?_ ?_
      · rintro B2 j x1 σ2 Hc Hd hj ⟨⟨c2, c3, c4, rfl⟩, us2, hus2, rus2, sc⟩ ⟨rfl, rfl⟩
        walk_at "rd"
        refine rd_irng2 ?_
        walk_at "rd"
        refine ⟨_, _, rfl, ⟨by omega, by omega, by decide, by decide⟩, ?_⟩
        have en2 : (8 - (0 + (i : Int) + (j : Int))).toNat = 8 - (i + j) := by omega
        rw [en2]
        refine for_inv (walk_range (n := 8 - (i + j))) (fun l σ' H' => (∃ c3 c4, σ' = [some (.ref D), some (.int (0 + (i : Int))), some (.int (0 + (i : Int) + (j : Int))), c3, c4]) ∧ ∃ us, H' D = some (.lst us) ∧ RpAll H' us ((chF (rows1 i ++ rows2 i j ++ rows3 i (i + j) l)).map chD) ∧ Same H H') ⟨⟨_, _, rfl⟩, us2, hus2, by rw [show rows3 i (i + j) 0 = [] from rfl, List.append_nil]; exact rus2, sc⟩ (fun _ _ _ _ _ => trivial) ?_ ?_
        · rintro B3 l x2 σ3 He Hf hl ⟨⟨c3, c4, rfl⟩, us3, hus3, rus3, se⟩ ⟨rfl, rfl⟩
          have l3 : us3.length ≤ 960 := by
            rw [rus3.length, List.length_map, chF_len, List.length_append, List.length_append, rows3_len]
            have h1 : (rows1 i ++ rows2 i j ++ rows3 i (i + j) l).length ≤ 120 := by
              have : ∀ i < 8, ∀ j < 8 - i, ∀ l ≤ 8 - (i + j), (rows1 i ++ rows2 i j ++ rows3 i (i + j) l).length ≤ 120 := by decide +kernel
              exact this i hi j hj l (by omega)
            rw [List.length_append, List.length_append, rows3_len] at h1
            omega
          walk_at "rd"
          intro tp htp
          have s1 := same_upd (o := .tup (rightsO.map V.str)) htp
          have t1 : upd Hf tp (.tup (rightsO.map V.str)) tp = some (.tup (rightsO.map V.str)) := upd_same
          generalize hH1 : upd Hf tp (.tup (rightsO.map V.str)) = H1 at s1 t1
          replace hH1 : upd Hf tp (.tup [.str "", .str "r", .str "rw", .str "rwx", .str "rx", .str "w", .str "wx", .str "x"]) = H1 := hH1
          rw [hH1]
          walk_at "rd"
          refine ⟨tp, rfl, ⟨_, SqT.of t1⟩, ?_⟩
          have enl : [(i : Int), ((i + j : Nat) : Int), ((i + j + l : Nat) : Int)] = [0 + (i : Int), 0 + (i : Int) + (j : Int), 0 + (i : Int) + (j : Int) + (l : Int)] := by simp
          refine for_inv (walk_tup (xs := rightsO.map V.str)) (fun m σ' H' => (∃ c4, σ' = [some (.ref D), some (.int (0 + (i : Int))), some (.int (0 + (i : Int) + (j : Int))), some (.int (0 + (i : Int) + (j : Int) + (l : Int))), c4]) ∧ H' tp = some (.tup (rightsO.map V.str)) ∧ ∃ us, H' D = some (.lst us) ∧ RpAll H' us ((chF (rows1 i ++ rows2 i j ++ rows3 i (i + j) l) ++ (rightsO.take m).map fun ri => ([(i : Int), ((i + j : Nat) : Int), ((i + j + l : Nat) : Int)], ri)).map chD) ∧ Same H H') ⟨⟨_, rfl⟩, t1, us3, s1 _ _ hus3, by rw [List.take_zero, List.map_nil, List.append_nil]; exact rus3.keep (Tk.of s1), se.trans s1⟩ (fun _ _ _ _ p => SqT.of p.2.1) ?_ ?_
          · rintro B4 m x3 σ4 Hg Hh hm4 ⟨⟨c4, rfl⟩, ht4, us4, hus4, rus4, sg⟩ ⟨rfl, hy⟩
            rw [List.getElem?_map] at hy
            obtain ⟨ri, hri, rfl⟩ := Option.map_eq_some_iff.mp hy
            have hm8 : m < 8 := hm4
            walk_at "rd"
            intro q1 hq1
            have sq1 := same_upd (o := .tup [.int (0 + (i : Int)), .int (0 + (i : Int) + (j : Int)), .int (0 + (i : Int) + (j : Int) + (l : Int))]) hq1
            have eq1 : upd Hh q1 (.tup [.int (0 + (i : Int)), .int (0 + (i : Int) + (j : Int)), .int (0 + (i : Int) + (j : Int) + (l : Int))]) q1 = some (.tup [.int (0 + (i : Int)), .int (0 + (i : Int) + (j : Int)), .int (0 + (i : Int) + (j : Int) + (l : Int))]) := upd_same
            generalize upd Hh q1 (.tup [.int (0 + (i : Int)), .int (0 + (i : Int) + (j : Int)), .int (0 + (i : Int) + (j : Int) + (l : Int))]) = H5 at sq1 eq1
            have hus5 := sq1 _ _ hus4
            walk_at "rd"
            intro q2 hq2
            have sq2 := same_upd (o := .tup [.ref q1, .str ri]) hq2
            have eq2 : upd H5 q2 (.tup [.ref q1, .str ri]) q2 = some (.tup [.ref q1, .str ri]) := upd_same
            generalize upd H5 q2 (.tup [.ref q1, .str ri]) = H6 at sq2 eq2
            have hus6 := sq2 _ _ hus5
            walk_at "rd"
            refine rd_append hus6 (small1000 (by rw [rus4.length, List.length_map, List.length_append, List.length_map, List.length_take]; have := rus3.length; rw [List.length_map] at this; show _ + min m 8 ≤ 1000; omega)) ?_
            have tk : Tk H6 (upd H6 D (.lst (us4 ++ [.ref q2]))) := Tk.lst hus6
            have sT := sq1.trans sq2
            refine ⟨⟨_, rfl⟩, tk _ _ (sT _ _ ht4), us4 ++ [.ref q2], upd_same, ?_, fun c o e => by rw [upd_ne (ne_of_none e hD)]; exact sT _ _ (sg _ _ e)⟩
            rw [take_snoc hri, List.map_append, List.map_append, List.map_append, ← List.append_assoc, ← List.map_append]
            refine ((rus4.keep (Tk.of sT)).keep tk).append (.cons (Rp.keep tk ?_) .nil)
            show Rp H6 (.ref q2) (.tuple [.tuple (List.map PyData.int [(i : Int), ((i + j : Nat) : Int), ((i + j + l : Nat) : Int)]), .str ri])
            rw [enl]
            exact .tup eq2 (.cons (.tup (sq2 _ _ eq1) (.cons (.int _) (.cons (.int _) (.cons (.int _) .nil)))) (.cons (.str _) .nil))
          · rintro σ4 Hg ⟨⟨c4, rfl⟩, ht4, us4, hus4, rus4, sg⟩
            refine ⟨⟨_, _, rfl⟩, us4, hus4, ?_, sg⟩
            rw [show rows3 i (i + j) (l + 1) = rows3 i (i + j) l ++ [[(i : Int), ((i + j : Nat) : Int), ((i + j + l : Nat) : Int)]] from rfl, ← List.append_assoc, chF_snoc]
            exact rus4
        · rintro σ3 He ⟨⟨c3, c4, rfl⟩, us3, hus3, rus3, se⟩
          exact ⟨⟨_, _, _, rfl⟩, us3, hus3, by rw [show rows2 i (j + 1) = rows2 i j ++ rows3 i (i + j) (8 - (i + j)) from rfl, ← List.append_assoc]; exact rus3, se⟩
      · rintro σ2 Hc ⟨⟨c2, c3, c4, rfl⟩, us2, hus2, rus2, sc⟩
        exact ⟨⟨_, _, _, _, rfl⟩, us2, hus2, rus2, sc⟩
    · rintro σ1 Ha ⟨⟨c1, c2, c3, c4, rfl⟩, us, hus, rus, sa⟩
      walk_at "rd"
      exact k D us Ha hD hus rus sa

end
end Rg

namespace Rg
open PySem PySem.Spec L2
local macro_rules | `(tactic| walk_at "rd1") => `(tactic| first
  | with_reducible refine rd_seq ?_
  | with_reducible refine rd_asg ?_
  | ((with_reducible show tVar _ _ _ _); refine rd_var rfl ?_)
  | with_reducible refine rd_c ?_
  | with_reducible refine rd_op ?_
  | with_reducible refine rd_I0 ?_
  | with_reducible refine rd_name ?_
  | with_reducible refine rd_ret ?_
  | with_reducible refine rd_ifs ?_
  | with_reducible refine rd_test ?_
  | with_reducible refine rd_tB ?_
  | with_reducible refine rd_bl ?_
  | with_reducible refine rd_drop ?_
  | with_reducible refine rd_nil ?_
  | with_reducible refine rd_cons ?_
  | with_reducible refine rd_call ?_
  | with_reducible refine rd_cb ?_
  | with_reducible refine rd_tup ?_
  | with_reducible refine rd_lst ?_
  | with_reducible refine rd_and ?_
  | with_reducible refine rd_or ?_
  | with_reducible refine rd_not ?_
  | with_reducible refine rd_andV ?_
  | with_reducible refine rd_orV ?_
  | with_reducible refine rd_notV ?_
  | with_reducible refine rd_chain ?_
  | with_reducible refine rd_un ?_
  | with_reducible refine rd_isN ?_
  | with_reducible refine rd_bm ?_
  | with_reducible refine rd_bm0 ?_
  | with_reducible refine rd_gsub ?_
  | with_reducible refine rd_sl ?_
  | with_reducible refine rd_gt ?_
  | with_reducible refine rd_yes ?_
  | with_reducible refine rd_gcons ?_
  | with_reducible refine rd_gnil ?_
  | with_reducible refine rd_part ?_
  | with_reducible refine rd_nopart ?_
  | ((with_reducible show gTup _ _ _ _ _ _ _); refine rd_gtup (by first | assumption | exact upd_same) rfl ?_)
  | ((with_reducible show gLst _ _ _ _ _ _ _); refine rd_glst (by first | assumption | exact upd_same) rfl ?_)
  | ((with_reducible show rIsi _ _ _ _); first | refine rd_isi (b := true) (.ty _) (.base (by first | exact .int _ | exact .str _ | exact .bl _ | exact .non | exact .tup (by assumption) | exact .lst (by assumption))) (kit_ty (by decide +kernel)) ?_ | refine rd_isi (b := false) (.ty _) (.base (by first | exact .int _ | exact .str _ | exact .bl _ | exact .non | exact .tup (by assumption) | exact .lst (by assumption))) (kit_ty (by decide +kernel)) ?_)
  | with_reducible refine rd_fld ?_
  | with_reducible refine rd_sfld ?_
  | with_reducible refine rd_meth ?_
  | with_reducible refine rd_make ?_
  | with_reducible refine rd_makeK ?_
  | with_reducible refine rd_U ?_
  | with_reducible refine rd_makeKS ?_
  | with_reducible refine rd_callN ?_
  | with_reducible refine rd_rs ?_
  | with_reducible refine rd_rf ?_
  | with_reducible refine rd_star ?_
  | with_reducible refine rd_callS ?_
  | with_reducible refine rd_for ?_
  | with_reducible refine rd_lc ?_
  | with_reducible refine rd_ilist ?_
  | with_reducible refine rd_itup ?_
  | with_reducible refine rd_irng ?_
  | with_reducible refine rd_izipS ?_
  | with_reducible refine rd_ienum ?_
  | with_reducible refine rd_ienT ?_
  | with_reducible refine rd_next ?_
  | with_reducible refine rd_eq rfl ?_
  | with_reducible refine rd_ne rfl ?_
  | with_reducible refine iteT ?_
  | with_reducible refine iteF ?_
  | with_reducible refine rd_ifnT ?_
  | with_reducible refine rd_ifnF ?_
  | ((with_reducible show rI (fun _ j => (0 : Int) < j) _ _ _ _ _); refine rd_mod (by omega) ?_)
  | with_reducible refine rd_new rfl ?_
  | ((with_reducible show rIxL _ _ (V.int 0) _ _); refine rd_ixL0 (by first | assumption | exact upd_same) ?_)
  | ((with_reducible show rIxL _ _ _ _ _); refine rd_ixL (by first | assumption | exact upd_same) rfl ?_)
  | ((with_reducible show rSetL _ _ _ _ _); refine rd_setL (by first | assumption | exact upd_same) rfl ?_)
  | ((with_reducible show rI CMul _ _ _ _ _); refine rd_mul (by first | exact Or.inl ⟨by omega, by omega⟩ | exact Or.inr ⟨by omega, by omega⟩) ?_)
  | ((with_reducible show tyV _ "list" _ _ ∧ _); refine rd_tyL (by first | assumption | exact upd_same) ?_)
  | ((with_reducible show rIxT _ _ (V.int 0) _ _); refine rd_ixT0 (by first | assumption | exact upd_same) ?_)
  | ((with_reducible show rIxT _ _ _ _ _); refine rd_ixT (by first | assumption | exact upd_same) rfl ?_))
local macro_rules | `(tactic| walk_at "rdn1") => `(tactic| first
  | with_reducible refine rd_seq ?_
  | with_reducible refine rd_asg ?_
  | ((with_reducible show tVar _ _ _ _); refine rd_var rfl ?_)
  | with_reducible refine rd_c ?_
  | with_reducible refine rd_op ?_
  | with_reducible refine rd_I0 ?_
  | with_reducible refine rd_name ?_
  | with_reducible refine rd_ret ?_
  | with_reducible refine rd_ifs ?_
  | with_reducible refine rd_test ?_
  | with_reducible refine rd_tB ?_
  | with_reducible refine rd_bl ?_
  | with_reducible refine rd_drop ?_
  | with_reducible refine rd_nil ?_
  | with_reducible refine rd_cons ?_
  | with_reducible refine rd_call ?_
  | with_reducible refine rd_cb ?_
  | with_reducible refine rd_tup ?_
  | with_reducible refine rd_lst ?_
  | with_reducible refine rd_and ?_
  | with_reducible refine rd_or ?_
  | with_reducible refine rd_not ?_
  | with_reducible refine rd_notV ?_
  | with_reducible refine rd_chain ?_
  | with_reducible refine rd_un ?_
  | with_reducible refine rd_isN ?_
  | with_reducible refine rd_bm ?_
  | with_reducible refine rd_bm0 ?_
  | with_reducible refine rd_gsub ?_
  | with_reducible refine rd_sl ?_
  | with_reducible refine rd_gt ?_
  | with_reducible refine rd_yes ?_
  | with_reducible refine rd_gcons ?_
  | with_reducible refine rd_gnil ?_
  | with_reducible refine rd_part ?_
  | with_reducible refine rd_nopart ?_
  | ((with_reducible show gTup _ _ _ _ _ _ _); refine rd_gtup (by first | assumption | exact upd_same) rfl ?_)
  | ((with_reducible show gLst _ _ _ _ _ _ _); refine rd_glst (by first | assumption | exact upd_same) rfl ?_)
  | ((with_reducible show rIsi _ _ _ _); first | refine rd_isi (b := true) (.ty _) (.base (by first | exact .int _ | exact .str _ | exact .bl _ | exact .non | exact .tup (by assumption) | exact .lst (by assumption))) (kit_ty (by decide +kernel)) ?_ | refine rd_isi (b := false) (.ty _) (.base (by first | exact .int _ | exact .str _ | exact .bl _ | exact .non | exact .tup (by assumption) | exact .lst (by assumption))) (kit_ty (by decide +kernel)) ?_)
  | with_reducible refine rd_fld ?_
  | with_reducible refine rd_sfld ?_
  | with_reducible refine rd_meth ?_
  | with_reducible refine rd_make ?_
  | with_reducible refine rd_makeK ?_
  | with_reducible refine rd_U ?_
  | with_reducible refine rd_makeKS ?_
  | with_reducible refine rd_callN ?_
  | with_reducible refine rd_rs ?_
  | with_reducible refine rd_rf ?_
  | with_reducible refine rd_star ?_
  | with_reducible refine rd_callS ?_
  | with_reducible refine rd_for ?_
  | with_reducible refine rd_lc ?_
  | with_reducible refine rd_ilist ?_
  | with_reducible refine rd_itup ?_
  | with_reducible refine rd_irng ?_
  | with_reducible refine rd_izipS ?_
  | with_reducible refine rd_ienum ?_
  | with_reducible refine rd_ienT ?_
  | with_reducible refine rd_next ?_
  | with_reducible refine rd_eq rfl ?_
  | with_reducible refine rd_ne rfl ?_
  | with_reducible refine iteT ?_
  | with_reducible refine iteF ?_
  | with_reducible refine rd_ifnT ?_
  | with_reducible refine rd_ifnF ?_
  | ((with_reducible show rI (fun _ j => (0 : Int) < j) _ _ _ _ _); refine rd_mod (by omega) ?_)
  | with_reducible refine rd_new rfl ?_
  | ((with_reducible show rIxL _ _ (V.int 0) _ _); refine rd_ixL0 (by first | assumption | exact upd_same) ?_)
  | ((with_reducible show rIxL _ _ _ _ _); refine rd_ixL (by first | assumption | exact upd_same) rfl ?_)
  | ((with_reducible show rSetL _ _ _ _ _); refine rd_setL (by first | assumption | exact upd_same) rfl ?_)
  | ((with_reducible show rI CMul _ _ _ _ _); refine rd_mul (by first | exact Or.inl ⟨by omega, by omega⟩ | exact Or.inr ⟨by omega, by omega⟩) ?_)
  | ((with_reducible show tyV _ "list" _ _ ∧ _); refine rd_tyL (by first | assumption | exact upd_same) ?_)
  | ((with_reducible show rIxT _ _ (V.int 0) _ _); refine rd_ixT0 (by first | assumption | exact upd_same) ?_)
  | ((with_reducible show rIxT _ _ _ _ _); refine rd_ixT (by first | assumption | exact upd_same) rfl ?_))
local macro_rules | `(tactic| walk_at "rd") => `(tactic| (repeat (first | walk_at "rd1" | dsimp only)))
local macro_rules | `(tactic| walk_at "rds") => `(tactic| (dsimp only [cxOf, Cx.nox, Cx.wish, Cx.blk, L2.start]; walk_at "rd"))
local macro_rules | `(tactic| walk_at "rdn") => `(tactic| (repeat (first | walk_at "rdn1" | dsimp only)))
section
variable {P : Program} {w : World} {K : PySem.W.Frag} {mg : Str → Option Value} {base : Heap}

/-- four lists of ints in the heap -/
structure L4 (H : Hp) (a b c d : Addr) (as bs cs ds : List Int) : Prop where
  a : H a = some (.lst (as.map V.int))
  b : H b = some (.lst (bs.map V.int))
  c : H c = some (.lst (cs.map V.int))
  d : H d = some (.lst (ds.map V.int))
theorem L4.same {H H' : Hp} {a b c d : Addr} {as bs cs ds : List Int} (h : L4 H a b c d as bs cs ds) (s : Same H H') : L4 H' a b c d as bs cs ds := ⟨s _ _ h.a, s _ _ h.b, s _ _ h.c, s _ _ h.d⟩
def NoRE (NR : Addr) (zs : List Int) (E : XK) (H : Hp) : Prop := ∀ pre z post, zs = pre ++ z :: post → (∀ y ∈ pre, below y 8 = true) → below z 8 = false → ∀ (x : Addr) (H' : Hp), H x = none → H' x = some (.xd [("what", .int z)]) → Same H H' → E (.ref NR) (some x) H'
def spNoR (NR : Addr) : Sp := fun vs H Q E => ∃ (a b c d : Addr) (as bs cs ds : List Int), vs = [.ref a, .ref b, .ref c, .ref d] ∧ L4 H a b c d as bs cs ds ∧ (∀ z ∈ as ++ bs ++ cs ++ ds, z.natAbs.log2 < 1920) ∧
  ((∀ z ∈ as ++ bs ++ cs ++ ds, below z 8 = true) → ∀ H', Same H H' → Q .non H') ∧
  NoRE NR (as ++ bs ++ cs ++ ds) E H
theorem ok_noR {f NR : Addr} {fd : FuncData} (B : BT mg) (F : Fun K "refuse_no_ring" "refuse_no_ring" s_refuse_no_ring f fd) (hm : mg "refuse_no_ring" = some (.ref f)) (X_NoRing : Exk P w K mg base "NoRing" NR) (C_is_ring : Cal P w K mg base "is_ring" 3 ["number"] spRing) : CalX P w K mg base "refuse_no_ring" 4 ["reads", "writes", "runs", "calls"] (spNoR NR) := by
  refine ⟨f, fd, hm, F.kp, F.binds (ps := ["reads", "writes", "runs", "calls"]) fun _ _ _ _ _ _ us hl => match us, hl with | [_, _, _, _], _ => rfl, ?_⟩
  refine F.okX sc_refuse_no_ring (fun vs H Q E h => ?_) (fun cdv A outer s H vs Q E hr h => ?_)
  · obtain ⟨a, b, c, d, as, bs, cs, ds, rfl, _⟩ := h
    rfl
  · obtain ⟨a, b, c, d, as, bs, cs, ds, rfl, L, big, k1, k2⟩ := h
    refine ⟨_, (pss_one (ps_for (passes_of rfl) rfl (pi_tupK (K := K) (pe_tup (pa_cons (pv 0) (pa_cons (pv 1) (pa_cons (pv 2) (pa_cons (pv 3) pa_nil)))))) (pg_name (i := 4) sc_refuse_no_ring.nd rfl (Or.inl rfl))
 (pss_one (ps_for (passes_of rfl) rfl (pi_listK (K := K) (pv 4)) (pg_name (i := 5) sc_refuse_no_ring.nd rfl (Or.inl rfl))
 (pss_one (ps_if (pt_not (pt_val (pe_cal C_is_ring (hr.mono (by omega)) rfl (pa_cons (pv 5) pa_nil)))) (pss_one (ps_raisew X_NoRing rfl (takes_of rfl rfl rfl rfl) (hr.mono (by omega)) rfl (pv 5))) pss_nil)))))), ?_⟩
    walk_at "rds"
    intro tp htp
    have s1 := same_upd (o := .tup [.ref a, .ref b, .ref c, .ref d]) htp
    have t1 : upd H tp (.tup [.ref a, .ref b, .ref c, .ref d]) tp = some (.tup [.ref a, .ref b, .ref c, .ref d]) := upd_same
    generalize upd H tp (.tup [.ref a, .ref b, .ref c, .ref d]) = H1 at s1 t1
    walk_at "rd"
    refine ⟨tp, rfl, ⟨_, SqT.of t1⟩, ?_⟩
    refine for_inv (walk_tup (xs := [.ref a, .ref b, .ref c, .ref d])) (fun i σ' H' => (∃ c4 c5 : Option V, σ' = [some (.ref a), some (.ref b), some (.ref c), some (.ref d), c4, c5]) ∧ Same H1 H' ∧ ∀ z ∈ (([as, bs, cs, ds] : List (List Int)).take i).flatten, below z 8 = true) ⟨⟨none, none, rfl⟩, Same.refl _, fun z h => (nomatch h)⟩ (fun i σ' H' _ p => SqT.of (p.2.1 _ _ t1)) ?_ ?_
    · rintro Bk i y σ1 Ha Hb hi ⟨⟨c4, c5, rfl⟩, sa, fa⟩ ⟨rfl, hy⟩
      have L2 := L.same (s1.trans sa)
      have hi4 : i < 4 := hi
      have hq : ∃ (q : Addr) (zs : List Int) (rest : List Int), y = .ref q ∧ Hb q = some (.lst (zs.map V.int)) ∧ ([as, bs, cs, ds] : List (List Int))[i]? = some zs ∧ as ++ bs ++ cs ++ ds = (([as, bs, cs, ds] : List (List Int)).take i).flatten ++ (zs ++ rest) := by
        match i, hi4 with
        | 0, _ => exact ⟨a, as, bs ++ cs ++ ds, by simpa using hy.symm, L2.a, rfl, by simp⟩
        | 1, _ => exact ⟨b, bs, cs ++ ds, by simpa using hy.symm, L2.b, rfl, by simp⟩
        | 2, _ => exact ⟨c, cs, ds, by simpa using hy.symm, L2.c, rfl, by simp⟩
        | 3, _ => exact ⟨d, ds, [], by simpa using hy.symm, L2.d, rfl, by simp⟩
      obtain ⟨q, zs, rest, rfl, hqL, hzs, hcut⟩ := hq
      have htake : (([as, bs, cs, ds] : List (List Int)).take (i + 1)).flatten = (([as, bs, cs, ds] : List (List Int)).take i).flatten ++ zs := by
        rw [take_snoc hzs, List.flatten_append]
        simp
      generalize (([as, bs, cs, ds] : List (List Int)).take i).flatten = pre at fa hcut htake
      walk_at "rd"
      refine ⟨q, rfl, ⟨_, SqL.of hqL⟩, ?_⟩
      refine for_inv (walk_list (xs := zs.map V.int)) (fun j σ' H' => (∃ c5 : Option V, σ' = [some (.ref a), some (.ref b), some (.ref c), some (.ref d), some (.ref q), c5]) ∧ Same Hb H' ∧ ∀ z ∈ zs.take j, below z 8 = true) ⟨⟨_, rfl⟩, Same.refl _, fun z h => (nomatch h)⟩ (fun i σ' H' _ p => SqL.of (p.2.1 _ _ hqL)) ?_ ?_
      · rintro Bk2 j y2 σ2 Hc Hd hj ⟨⟨c5, rfl⟩, sc, fc⟩ ⟨rfl, hy2⟩
        rw [List.getElem?_map] at hy2
        obtain ⟨z, hz, rfl⟩ := Option.map_eq_some_iff.mp hy2
        have sH := (s1.trans sa).trans sc
        walk_at "rd"
        refine ⟨z, rfl, ?_⟩
        walk_at "rd"
        refine rd_ifn (fun hb => ?_) (fun hb => ?_)
        · walk_at "rd"
          refine ⟨⟨_, rfl⟩, sc, fun r hr' => ?_⟩
          rw [take_snoc hz] at hr'
          rcases List.mem_append.mp hr' with h | h
          · exact fc r h
          · rw [List.mem_singleton.mp h]; exact hb
        · have hcut2 : as ++ bs ++ cs ++ ds = (pre ++ zs.take j) ++ z :: (zs.drop (j + 1) ++ rest) := by
            rw [hcut, List.append_assoc]
            congr 1
            have := List.take_append_drop j zs
            have h2 : zs.drop j = z :: zs.drop (j + 1) := by
              obtain ⟨hlt, e⟩ := List.getElem?_eq_some_iff.mp hz
              rw [List.drop_eq_getElem_cons hlt, e]
            rw [h2] at this
            generalize zs.take j = tj at this ⊢
            generalize zs.drop (j + 1) = dj at this ⊢
            rw [← this]
            simp
          have hzb : z.natAbs.log2 < 1920 := big z (by rw [hcut2]; simp)
          walk_at "rd"
          exact rd_mko (R := fun d H' => E (.ref NR) d H') X_NoRing.oex X_NoRing.wh (.inr ⟨z, rfl, hzb⟩) fun x hx => k2 _ z _ hcut2 (fun y hy => (List.mem_append.mp hy).elim (fa y) (fc y)) hb x _ (sH.free hx) upd_same (sH.trans (same_upd hx))
      · rintro σ2 Hc ⟨⟨c5, rfl⟩, sc, fc⟩
        refine ⟨⟨_, _, rfl⟩, sa.trans sc, ?_⟩
        rw [htake]
        intro z hz
        rcases List.mem_append.mp hz with h | h
        · exact fa z h
        · exact fc z (by rw [List.take_of_length_le (by simp)]; exact h)
    · rintro σ1 Ha ⟨⟨c4, c5, rfl⟩, sa, fa⟩
      walk_at "rd"
      refine k1 (fun z hz => fa z ?_) _ (s1.trans sa)
      simpa using hz

end
end Rg

namespace Rg
open PySem PySem.Spec L2
local macro_rules | `(tactic| walk_at "rd1") => `(tactic| first
  | with_reducible refine rd_seq ?_
  | with_reducible refine rd_asg ?_
  | ((with_reducible show tVar _ _ _ _); refine rd_var rfl ?_)
  | with_reducible refine rd_c ?_
  | with_reducible refine rd_op ?_
  | with_reducible refine rd_I0 ?_
  | with_reducible refine rd_name ?_
  | with_reducible refine rd_ret ?_
  | with_reducible refine rd_ifs ?_
  | with_reducible refine rd_test ?_
  | with_reducible refine rd_tB ?_
  | with_reducible refine rd_bl ?_
  | with_reducible refine rd_drop ?_
  | with_reducible refine rd_nil ?_
  | with_reducible refine rd_cons ?_
  | with_reducible refine rd_call ?_
  | with_reducible refine rd_cb ?_
  | with_reducible refine rd_tup ?_
  | with_reducible refine rd_lst ?_
  | with_reducible refine rd_and ?_
  | with_reducible refine rd_or ?_
  | with_reducible refine rd_not ?_
  | with_reducible refine rd_andV ?_
  | with_reducible refine rd_orV ?_
  | with_reducible refine rd_notV ?_
  | with_reducible refine rd_chain ?_
  | with_reducible refine rd_un ?_
  | with_reducible refine rd_isN ?_
  | with_reducible refine rd_bm ?_
  | with_reducible refine rd_bm0 ?_
  | with_reducible refine rd_gsub ?_
  | with_reducible refine rd_sl ?_
  | with_reducible refine rd_gt ?_
  | with_reducible refine rd_yes ?_
  | with_reducible refine rd_gcons ?_
  | with_reducible refine rd_gnil ?_
  | with_reducible refine rd_part ?_
  | with_reducible refine rd_nopart ?_
  | ((with_reducible show gTup _ _ _ _ _ _ _); refine rd_gtup (by first | assumption | exact upd_same) rfl ?_)
  | ((with_reducible show gLst _ _ _ _ _ _ _); refine rd_glst (by first | assumption | exact upd_same) rfl ?_)
  | ((with_reducible show rIsi _ _ _ _); first | refine rd_isi (b := true) (.ty _) (.base (by first | exact .int _ | exact .str _ | exact .bl _ | exact .non | exact .tup (by assumption) | exact .lst (by assumption))) (kit_ty (by decide +kernel)) ?_ | refine rd_isi (b := false) (.ty _) (.base (by first | exact .int _ | exact .str _ | exact .bl _ | exact .non | exact .tup (by assumption) | exact .lst (by assumption))) (kit_ty (by decide +kernel)) ?_)
  | with_reducible refine rd_fld ?_
  | with_reducible refine rd_sfld ?_
  | with_reducible refine rd_meth ?_
  | with_reducible refine rd_make ?_
  | with_reducible refine rd_makeK ?_
  | with_reducible refine rd_U ?_
  | with_reducible refine rd_makeKS ?_
  | with_reducible refine rd_callN ?_
  | with_reducible refine rd_rs ?_
  | with_reducible refine rd_rf ?_
  | with_reducible refine rd_star ?_
  | with_reducible refine rd_callS ?_
  | with_reducible refine rd_for ?_
  | with_reducible refine rd_lc ?_
  | with_reducible refine rd_ilist ?_
  | with_reducible refine rd_itup ?_
  | with_reducible refine rd_irng ?_
  | with_reducible refine rd_izipS ?_
  | with_reducible refine rd_ienum ?_
  | with_reducible refine rd_ienT ?_
  | with_reducible refine rd_next ?_
  | with_reducible refine rd_eq rfl ?_
  | with_reducible refine rd_ne rfl ?_
  | with_reducible refine iteT ?_
  | with_reducible refine iteF ?_
  | with_reducible refine rd_ifnT ?_
  | with_reducible refine rd_ifnF ?_
  | ((with_reducible show rI (fun _ j => (0 : Int) < j) _ _ _ _ _); refine rd_mod (by omega) ?_)
  | with_reducible refine rd_new rfl ?_
  | ((with_reducible show rIxL _ _ (V.int 0) _ _); refine rd_ixL0 (by first | assumption | exact upd_same) ?_)
  | ((with_reducible show rIxL _ _ _ _ _); refine rd_ixL (by first | assumption | exact upd_same) rfl ?_)
  | ((with_reducible show rSetL _ _ _ _ _); refine rd_setL (by first | assumption | exact upd_same) rfl ?_)
  | ((with_reducible show rI CMul _ _ _ _ _); refine rd_mul (by first | exact Or.inl ⟨by omega, by omega⟩ | exact Or.inr ⟨by omega, by omega⟩) ?_)
  | ((with_reducible show tyV _ "list" _ _ ∧ _); refine rd_tyL (by first | assumption | exact upd_same) ?_)
  | ((with_reducible show rIxT _ _ (V.int 0) _ _); refine rd_ixT0 (by first | assumption | exact upd_same) ?_)
  | ((with_reducible show rIxT _ _ _ _ _); refine rd_ixT (by first | assumption | exact upd_same) rfl ?_))
local macro_rules | `(tactic| walk_at "rdn1") => `(tactic| first
  | with_reducible refine rd_seq ?_
  | with_reducible refine rd_asg ?_
  | ((with_reducible show tVar _ _ _ _); refine rd_var rfl ?_)
  | with_reducible refine rd_c ?_
  | with_reducible refine rd_op ?_
  | with_reducible refine rd_I0 ?_
  | with_reducible refine rd_name ?_
  | with_reducible refine rd_ret ?_
  | with_reducible refine rd_ifs ?_
  | with_reducible refine rd_test ?_
  | with_reducible refine rd_tB ?_
  | with_reducible refine rd_bl ?_
  | with_reducible refine rd_drop ?_
  | with_reducible refine rd_nil ?_
  | with_reducible refine rd_cons ?_
  | with_reducible refine rd_call ?_
  | with_reducible refine rd_cb ?_
  | with_reducible refine rd_tup ?_
  | with_reducible refine rd_lst ?_
  | with_reducible refine rd_and ?_
  | with_reducible refine rd_or ?_
  | with_reducible refine rd_not ?_
  | with_reducible refine rd_notV ?_
  | with_reducible refine rd_chain ?_
  | with_reducible refine rd_un ?_
  | with_reducible refine rd_isN ?_
  | with_reducible refine rd_bm ?_
  | with_reducible refine rd_bm0 ?_
  | with_reducible refine rd_gsub ?_
  | with_reducible refine rd_sl ?_
  | with_reducible refine rd_gt ?_
  | with_reducible refine rd_yes ?_
  | with_reducible refine rd_gcons ?_
  | with_reducible refine rd_gnil ?_
  | with_reducible refine rd_part ?_
  | with_reducible refine rd_nopart ?_
  | ((with_reducible show gTup _ _ _ _ _ _ _); refine rd_gtup (by first | assumption | exact upd_same) rfl ?_)
  | ((with_reducible show gLst _ _ _ _ _ _ _); refine rd_glst (by first | assumption | exact upd_same) rfl ?_)
  | ((with_reducible show rIsi _ _ _ _); first | refine rd_isi (b := true) (.ty _) (.base (by first | exact .int _ | exact .str _ | exact .bl _ | exact .non | exact .tup (by assumption) | exact .lst (by assumption))) (kit_ty (by decide +kernel)) ?_ | refine rd_isi (b := false) (.ty _) (.base (by first | exact .int _ | exact .str _ | exact .bl _ | exact .non | exact .tup (by assumption) | exact .lst (by assumption))) (kit_ty (by decide +kernel)) ?_)
  | with_reducible refine rd_fld ?_
  | with_reducible refine rd_sfld ?_
  | with_reducible refine rd_meth ?_
  | with_reducible refine rd_make ?_
  | with_reducible refine rd_makeK ?_
  | with_reducible refine rd_U ?_
  | with_reducible refine rd_makeKS ?_
  | with_reducible refine rd_callN ?_
  | with_reducible refine rd_rs ?_
  | with_reducible refine rd_rf ?_
  | with_reducible refine rd_star ?_
  | with_reducible refine rd_callS ?_
  | with_reducible refine rd_for ?_
  | with_reducible refine rd_lc ?_
  | with_reducible refine rd_ilist ?_
  | with_reducible refine rd_itup ?_
  | with_reducible refine rd_irng ?_
  | with_reducible refine rd_izipS ?_
  | with_reducible refine rd_ienum ?_
  | with_reducible refine rd_ienT ?_
  | with_reducible refine rd_next ?_
  | with_reducible refine rd_eq rfl ?_
  | with_reducible refine rd_ne rfl ?_
  | with_reducible refine iteT ?_
  | with_reducible refine iteF ?_
  | with_reducible refine rd_ifnT ?_
  | with_reducible refine rd_ifnF ?_
  | ((with_reducible show rI (fun _ j => (0 : Int) < j) _ _ _ _ _); refine rd_mod (by omega) ?_)
  | with_reducible refine rd_new rfl ?_
  | ((with_reducible show rIxL _ _ (V.int 0) _ _); refine rd_ixL0 (by first | assumption | exact upd_same) ?_)
  | ((with_reducible show rIxL _ _ _ _ _); refine rd_ixL (by first | assumption | exact upd_same) rfl ?_)
  | ((with_reducible show rSetL _ _ _ _ _); refine rd_setL (by first | assumption | exact upd_same) rfl ?_)
  | ((with_reducible show rI CMul _ _ _ _ _); refine rd_mul (by first | exact Or.inl ⟨by omega, by omega⟩ | exact Or.inr ⟨by omega, by omega⟩) ?_)
  | ((with_reducible show tyV _ "list" _ _ ∧ _); refine rd_tyL (by first | assumption | exact upd_same) ?_)
  | ((with_reducible show rIxT _ _ (V.int 0) _ _); refine rd_ixT0 (by first | assumption | exact upd_same) ?_)
  | ((with_reducible show rIxT _ _ _ _ _); refine rd_ixT (by first | assumption | exact upd_same) rfl ?_))
local macro_rules | `(tactic| walk_at "rd") => `(tactic| (repeat (first | walk_at "rd1" | dsimp only)))
local macro_rules | `(tactic| walk_at "rds") => `(tactic| (dsimp only [cxOf, Cx.nox, Cx.wish, Cx.blk, L2.start]; walk_at "rd"))
local macro_rules | `(tactic| walk_at "rdn") => `(tactic| (repeat (first | walk_at "rdn1" | dsimp only)))
section
variable {P : Program} {w : World} {K : PySem.W.Frag} {mg : Str → Option Value} {base : Heap}

theorem inI (z : Int) (l : List Int) : inV (.int z) (l.map V.int) = decide (z ∈ l) := by
  induction l with
  | nil => rfl
  | cons a l ih =>
    rw [show inV (V.int z) ((a :: l).map V.int) = (eqV (.int a) (.int z) || inV (.int z) (l.map V.int)) from rfl, ih]
    by_cases h : a = z
    · subst h
      simp [eqV]
    · simp [eqV, h, Ne.symm h]
theorem flI (l : List Int) : (l.map V.int).all flatV = true := by
  rw [List.all_eq_true]
  intro v hv
  obtain ⟨z, _, rfl⟩ := List.mem_map.mp hv
  rfl
def upTo (i k : Nat) : List (Nat × Nat) := ((List.range i).flatMap fun r => (List.range 4).map fun k => (r, k)) ++ (List.range k).map fun k => (i, k)
theorem upTo_succ (i k : Nat) : upTo i (k + 1) = upTo i k ++ [(i, k)] := by
  unfold upTo
  rw [show List.range (k + 1) = List.range k ++ [k] from List.range_succ, List.map_append, List.append_assoc]
  rfl
theorem upTo_row (i : Nat) : upTo (i + 1) 0 = upTo i 4 := by
  unfold upTo
  rw [show List.range (i + 1) = List.range i ++ [i] from List.range_succ, List.flatMap_append]
  simp
theorem upTo_all : upTo 8 0 = cells8 := by
  unfold upTo cells8
  simp
theorem rd_notInL {K : PySem.W.Frag} {H : Hp} {Q : VK} {x : V} {p : Addr} {xs : List V} (h : H p = some (.lst xs)) (f1 : flatV x = true) (f2 : xs.all flatV = true) (q : Q (.bl (!inV x xs)) H) : rIn K true x (.ref p) H Q := ⟨p, xs, rfl, .inl (SqL.of h), f1, f2, by simpa using q⟩
def spExtra : Sp := fun vs H Q _ => ∃ (L p a b c d : Addr) (as bs cs ds : List Int) (r1 r2 r3 : Int) (ri : Str), vs = [.ref L, .ref p, .str ri] ∧ H L = some (.lst [.ref a, .ref b, .ref c, .ref d]) ∧ L4 H a b c d as bs cs ds ∧ Rp H (.ref p) (triD [r1, r2, r3]) ∧
  ∀ (q : Addr) (H' : Hp), H' q = some (.tup [.int (beyN (at4 as bs cs ds) (sgO [r1, r2, r3] ri) cells8 : Nat), .bl (lacB (at4 as bs cs ds) (sgO [r1, r2, r3] ri) cells8)]) → Same H H' → Q (.ref q) H'
theorem ok_extra {f : Addr} {fd : FuncData} (B : BT mg) (F : Fun K "_law_extra" "_law_extra" s_law_extra f fd) (hm : mg "_law_extra" = some (.ref f)) (C_law_may : Cal P w K mg base "_law_may" 1 ["brackets", "rights", "ring"] spMayL) : Cal P w K mg base "_law_extra" 2 ["lists", "brackets", "rights"] spExtra := by
  refine ⟨f, fd, hm, F.kp, F.binds (ps := ["lists", "brackets", "rights"]) fun _ _ _ _ _ _ us hl => match us, hl with | [_, _, _], _ => rfl, ?_⟩
  refine F.ok sc_law_extra (fun vs H Q E h => ?_) (fun cdv A outer s H vs Q E hr h => ?_)
  · obtain ⟨L, p, a, b, c, d, as, bs, cs, ds, r1, r2, r3, ri, rfl, _⟩ := h
    rfl
  · obtain ⟨L, p, a, b, c, d, as, bs, cs, ds, r1, r2, r3, ri, rfl, hL, L4, rp, k⟩ := h
    refine ⟨_, (pss_cons (ps_asg (pe_tup (pa_cons pe_int (pa_cons pe_bl pa_nil))) (pg_tup (by rfl) (pgs_cons (pg_name (i := 3) sc_law_extra.nd rfl (Or.inl rfl)) (pgs_cons (pg_name (i := 4) sc_law_extra.nd rfl (Or.inl rfl)) pgs_nil))))
 (pss_cons (ps_for PassesOwn.never rfl (pi_range1 rfl B.g_range (pa_cons pe_int pa_nil)) (pg_name (i := 5) sc_law_extra.nd rfl (Or.inl rfl))
 (pss_cons (ps_set (i := 6) sc_law_extra.nd rfl (Or.inl rfl) (pe_cal C_law_may (hr.mono (by omega)) rfl (pa_cons (pv 1) (pa_cons (pv 2) (pa_cons (pv 5) pa_nil)))))
 (pss_one (ps_for PassesOwn.never rfl (pi_range1 rfl B.g_range (pa_cons pe_int pa_nil)) (pg_name (i := 7) sc_law_extra.nd rfl (Or.inl rfl))
 (pss_cons (ps_if (PW.pt (pw_and (pt_val (pe_ix (r := rIxT K) ix_tup (pv 6) (pv 7) (fun _ _ => rfl))) (pw_and1 (pt_cmpR (r := rIn K true) op_notIn_seq (pv 5) (pe_ix (r := rIxL K) ix_list (pv 0) (pv 7) (fun _ _ => rfl)) (by rfl))))) (pss_one (ps_aug (i := 3) sc_law_extra.nd rfl (Or.inl rfl) pe_int ip_add)) pss_nil)
 (pss_one (ps_if (PW.pt (pw_and (pt_cmpR (r := rIn K false) op_in_seq (pv 5) (pe_ix (r := rIxL K) ix_list (pv 0) (pv 7) (fun _ _ => rfl)) (by rfl)) (pw_and1 (pt_not (pt_val (pe_ix (r := rIxT K) ix_tup (pv 6) (pv 7) (fun _ _ => rfl))))))) (pss_one (ps_set (i := 4) sc_law_extra.nd rfl (Or.inl rfl) pe_bl)) pss_nil)))))))
 (pss_one (ps_ret (pe_tup (pa_cons (pv 3) (pa_cons (pv 4) pa_nil))))))), ?_⟩
    walk_at "rds"
    intro tp htp
    have stp := same_upd (o := .tup [.int 0, .bl false]) htp
    replace hL := stp _ _ hL
    replace L4 := L4.same stp
    replace rp := rp.keep (Tk.of stp)
    replace k := fun q H' e s => k q H' e (stp.trans s)
    have ttp : upd H tp (.tup [.int 0, .bl false]) tp = some (.tup [.int 0, .bl false]) := upd_same
    clear stp
    generalize upd H tp (.tup [.int 0, .bl false]) = H at hL L4 rp k ttp
    walk_at "rd"
    refine ⟨8, rfl, by decide, by decide, ?_⟩
    generalize hsg : sgO [r1, r2, r3] ri = sg at k
    generalize hg : at4 as bs cs ds = g at k
    refine for_inv (walk_range (n := 8)) (fun i σ' H' => (∃ c5 c6 c7, σ' = [some (.ref L), some (.ref p), some (.str ri), some (.int (beyN g sg (upTo i 0) : Nat)), some (.bl (lacB g sg (upTo i 0))), c5, c6, c7]) ∧ Same H H') ⟨⟨_, _, _, rfl⟩, Same.refl _⟩ (fun _ _ _ _ _ => trivial) ?_ ?_
    · rintro B' i x0 σ1 Ha Hb hi ⟨⟨c5, c6, c7, rfl⟩, sa⟩ ⟨rfl, rfl⟩
      walk_at "rd"
      refine ⟨p, r1, r2, r3, 0 + (i : Int), ri, rfl, rp.keep (Tk.of sa), fun q H1 hq s1 => ?_⟩
      rw [hsg, Int.zero_add] at hq
      have s01 := sa.trans s1
      walk_at "rd"
      refine ⟨4, rfl, by decide, by decide, ?_⟩
      refine for_inv (walk_range (n := 4)) (fun kk σ' H' => (∃ c7, σ' = [some (.ref L), some (.ref p), some (.str ri), some (.int (beyN g sg (upTo i kk) : Nat)), some (.bl (lacB g sg (upTo i kk))), some (.int (0 + (i : Int))), some (.ref q), c7]) ∧ Same H1 H') ⟨⟨_, rfl⟩, Same.refl _⟩ (fun _ _ _ _ _ => trivial) ?_ ?_
      · rintro B2 kk x1 σ2 Hc Hd hk ⟨⟨c7, rfl⟩, sc⟩ ⟨rfl, rfl⟩
        have hk4 : kk < 4 := hk
        have sD := s01.trans sc
        have hqd := sc _ _ hq
        have Ld := L4.same sD
        have hLd := sD _ _ hL
        have hz : ∃ (y : Addr) (zs : List Int), atI [V.ref a, .ref b, .ref c, .ref d] (0 + (kk : Int)) = some (.ref y) ∧ Hd y = some (.lst (zs.map V.int)) ∧ g kk = zs := by
          subst hg
          match kk, hk4 with
          | 0, _ => exact ⟨a, as, rfl, Ld.a, rfl⟩
          | 1, _ => exact ⟨b, bs, rfl, Ld.b, rfl⟩
          | 2, _ => exact ⟨c, cs, rfl, Ld.c, rfl⟩
          | 3, _ => exact ⟨d, ds, rfl, Ld.d, rfl⟩
        obtain ⟨y, zs, hy, hys, hgk⟩ := hz
        have hmk : atI [V.bl (mRead sg (i : Int)), .bl (mWrite sg (i : Int)), .bl (mRun sg (i : Int)), .bl (mCall sg (i : Int))] (0 + (kk : Int)) = some (.bl (mayK sg (i : Int) kk)) := by
          match kk, hk4 with
          | 0, _ => rfl
          | 1, _ => rfl
          | 2, _ => rfl
          | 3, _ => rfl
        have eb : beyN g sg (upTo i (kk + 1)) = beyN g sg (upTo i kk) + (if mayK sg (i : Int) kk && !decide ((i : Int) ∈ zs) then 1 else 0) := by
          unfold beyN
          rw [upTo_succ, List.countP_append, List.countP_singleton, hgk]
        have el : lacB g sg (upTo i (kk + 1)) = (lacB g sg (upTo i kk) || (decide ((i : Int) ∈ zs) && !mayK sg (i : Int) kk)) := by
          unfold lacB
          rw [upTo_succ, List.any_append, List.any_cons, List.any_nil, Bool.or_false, hgk]
        generalize mayK sg (i : Int) kk = mk at hmk eb el
        have hiz : inV (.int (0 + (i : Int))) (zs.map V.int) = decide ((i : Int) ∈ zs) := by rw [inI, Int.zero_add]
        generalize decide ((i : Int) ∈ zs) = iz at eb el hiz
        dsimp only
        refine rd_name ?_
        refine rd_seqJ (fun σ' H' => σ' = [some (.ref L), some (.ref p), some (.str ri), some (.int (beyN g sg (upTo i (kk + 1)) : Nat)), some (.bl (lacB g sg (upTo i kk))), some (.int (0 + (i : Int))), some (.ref q), some (.int (0 + (kk : Int)))] ∧ H' = Hd) (fun R hR => ?_) ?_
        · walk_at "rd"
          refine rd_ixT hqd hmk ?_
          walk_at "rd"
          cases mk with
          | false =>
            simp only [Bool.false_eq_true, if_false]
            walk_at "rd"
            refine hR _ _ ⟨?_, rfl⟩
            rw [eb]
            rfl
          | true =>
            walk_at "rd"
            refine rd_ixL hLd hy ?_
            walk_at "rd"
            refine rd_notInL hys rfl (flI zs) ?_
            rw [hiz]
            walk_at "rd"
            cases iz with
            | true =>
              walk_at "rd"
              refine hR _ _ ⟨?_, rfl⟩
              rw [eb]
              rfl
            | false =>
              walk_at "rd"
              refine ⟨_, rfl, ?_⟩
              walk_at "rd"
              refine ⟨_, _, rfl, rfl, ?_⟩
              refine hR _ _ ⟨?_, rfl⟩
              rw [eb]
              rfl
        · rintro σ' H' ⟨rfl, rfl⟩
          walk_at "rd"
          refine rd_ixL hLd hy ?_
          walk_at "rd"
          refine rd_in hys rfl (flI zs) ?_
          rw [hiz]
          walk_at "rd"
          cases iz with
          | false =>
            walk_at "rd"
            exact ⟨⟨some (.int (0 + (kk : Int))), by rw [el]; simp⟩, sc⟩
          | true =>
            walk_at "rd"
            refine rd_ixT hqd hmk ?_
            walk_at "rd"
            cases mk with
            | true =>
              walk_at "rd"
              exact ⟨⟨some (.int (0 + (kk : Int))), by rw [el]; simp⟩, sc⟩
            | false =>
              walk_at "rd"
              exact ⟨⟨some (.int (0 + (kk : Int))), by rw [el]; simp⟩, sc⟩
      · rintro σ2 Hc ⟨⟨c7, rfl⟩, sc⟩
        exact ⟨⟨_, _, _, by rw [upTo_row]⟩, s01.trans sc⟩
    · rintro σ1 Ha ⟨⟨c5, c6, c7, rfl⟩, sa⟩
      walk_at "rd"
      intro q hq
      rw [upTo_all]
      exact k q _ upd_same (sa.trans (same_upd hq))

end
end Rg

namespace Rg
open PySem PySem.Spec L2
local macro_rules | `(tactic| walk_at "rd1") => `(tactic| first
  | with_reducible refine rd_seq ?_
  | with_reducible refine rd_asg ?_
  | ((with_reducible show tVar _ _ _ _); refine rd_var rfl ?_)
  | with_reducible refine rd_c ?_
  | with_reducible refine rd_op ?_
  | with_reducible refine rd_I0 ?_
  | with_reducible refine rd_name ?_
  | with_reducible refine rd_ret ?_
  | with_reducible refine rd_ifs ?_
  | with_reducible refine rd_test ?_
  | with_reducible refine rd_tB ?_
  | with_reducible refine rd_bl ?_
  | with_reducible refine rd_drop ?_
  | with_reducible refine rd_nil ?_
  | with_reducible refine rd_cons ?_
  | with_reducible refine rd_call ?_
  | with_reducible refine rd_cb ?_
  | with_reducible refine rd_tup ?_
  | with_reducible refine rd_lst ?_
  | with_reducible refine rd_and ?_
  | with_reducible refine rd_or ?_
  | with_reducible refine rd_not ?_
  | with_reducible refine rd_andV ?_
  | with_reducible refine rd_orV ?_
  | with_reducible refine rd_notV ?_
  | with_reducible refine rd_chain ?_
  | with_reducible refine rd_un ?_
  | with_reducible refine rd_isN ?_
  | with_reducible refine rd_bm ?_
  | with_reducible refine rd_bm0 ?_
  | with_reducible refine rd_gsub ?_
  | with_reducible refine rd_sl ?_
  | with_reducible refine rd_gt ?_
  | with_reducible refine rd_yes ?_
  | with_reducible refine rd_gcons ?_
  | with_reducible refine rd_gnil ?_
  | with_reducible refine rd_part ?_
  | with_reducible refine rd_nopart ?_
  | ((with_reducible show gTup _ _ _ _ _ _ _); refine rd_gtup (by first | assumption | exact upd_same) rfl ?_)
  | ((with_reducible show gLst _ _ _ _ _ _ _); refine rd_glst (by first | assumption | exact upd_same) rfl ?_)
  | ((with_reducible show rIsi _ _ _ _); first | refine rd_isi (b := true) (.ty _) (.base (by first | exact .int _ | exact .str _ | exact .bl _ | exact .non | exact .tup (by assumption) | exact .lst (by assumption))) (kit_ty (by decide +kernel)) ?_ | refine rd_isi (b := false) (.ty _) (.base (by first | exact .int _ | exact .str _ | exact .bl _ | exact .non | exact .tup (by assumption) | exact .lst (by assumption))) (kit_ty (by decide +kernel)) ?_)
  | with_reducible refine rd_fld ?_
  | with_reducible refine rd_sfld ?_
  | with_reducible refine rd_meth ?_
  | with_reducible refine rd_make ?_
  | with_reducible refine rd_makeK ?_
  | with_reducible refine rd_U ?_
  | with_reducible refine rd_makeKS ?_
  | with_reducible refine rd_callN ?_
  | with_reducible refine rd_rs ?_
  | with_reducible refine rd_rf ?_
  | with_reducible refine rd_star ?_
  | with_reducible refine rd_callS ?_
  | with_reducible refine rd_for ?_
  | with_reducible refine rd_lc ?_
  | with_reducible refine rd_ilist ?_
  | with_reducible refine rd_itup ?_
  | with_reducible refine rd_irng ?_
  | with_reducible refine rd_izipS ?_
  | with_reducible refine rd_ienum ?_
  | with_reducible refine rd_ienT ?_
  | with_reducible refine rd_next ?_
  | with_reducible refine rd_eq rfl ?_
  | with_reducible refine rd_ne rfl ?_
  | with_reducible refine iteT ?_
  | with_reducible refine iteF ?_
  | with_reducible refine rd_ifnT ?_
  | with_reducible refine rd_ifnF ?_
  | ((with_reducible show rI (fun _ j => (0 : Int) < j) _ _ _ _ _); refine rd_mod (by omega) ?_)
  | with_reducible refine rd_new rfl ?_
  | ((with_reducible show rIxL _ _ (V.int 0) _ _); refine rd_ixL0 (by first | assumption | exact upd_same) ?_)
  | ((with_reducible show rIxL _ _ _ _ _); refine rd_ixL (by first | assumption | exact upd_same) rfl ?_)
  | ((with_reducible show rSetL _ _ _ _ _); refine rd_setL (by first | assumption | exact upd_same) rfl ?_)
  | ((with_reducible show rI CMul _ _ _ _ _); refine rd_mul (by first | exact Or.inl ⟨by omega, by omega⟩ | exact Or.inr ⟨by omega, by omega⟩) ?_)
  | ((with_reducible show tyV _ "list" _ _ ∧ _); refine rd_tyL (by first | assumption | exact upd_same) ?_)
  | ((with_reducible show rIxT _ _ (V.int 0) _ _); refine rd_ixT0 (by first | assumption | exact upd_same) ?_)
  | ((with_reducible show rIxT _ _ _ _ _); refine rd_ixT (by first | assumption | exact upd_same) rfl ?_))
local macro_rules | `(tactic| walk_at "rdn1") => `(tactic| first
  | with_reducible refine rd_seq ?_
  | with_reducible refine rd_asg ?_
  | ((with_reducible show tVar _ _ _ _); refine rd_var rfl ?_)
  | with_reducible refine rd_c ?_
  | with_reducible refine rd_op ?_
  | with_reducible refine rd_I0 ?_
  | with_reducible refine rd_name ?_
  | with_reducible refine rd_ret ?_
  | with_reducible refine rd_ifs ?_
  | with_reducible refine rd_test ?_
  | with_reducible refine rd_tB ?_
  | with_reducible refine rd_bl ?_
  | with_reducible refine rd_drop ?_
  | with_reducible refine rd_nil ?_
  | with_reducible refine rd_cons ?_
  | with_reducible refine rd_call ?_
  | with_reducible refine rd_cb ?_
  | with_reducible refine rd_tup ?_
  | with_reducible refine rd_lst ?_
  | with_reducible refine rd_and ?_
  | with_reducible refine rd_or ?_
  | with_reducible refine rd_not ?_
  | with_reducible refine rd_notV ?_
  | with_reducible refine rd_chain ?_
  | with_reducible refine rd_un ?_
  | with_reducible refine rd_isN ?_
  | with_reducible refine rd_bm ?_
  | with_reducible refine rd_bm0 ?_
  | with_reducible refine rd_gsub ?_
  | with_reducible refine rd_sl ?_
  | with_reducible refine rd_gt ?_
  | with_reducible refine rd_yes ?_
  | with_reducible refine rd_gcons ?_
  | with_reducible refine rd_gnil ?_
  | with_reducible refine rd_part ?_
  | with_reducible refine rd_nopart ?_
  | ((with_reducible show gTup _ _ _ _ _ _ _); refine rd_gtup (by first | assumption | exact upd_same) rfl ?_)
  | ((with_reducible show gLst _ _ _ _ _ _ _); refine rd_glst (by first | assumption | exact upd_same) rfl ?_)
  | ((with_reducible show rIsi _ _ _ _); first | refine rd_isi (b := true) (.ty _) (.base (by first | exact .int _ | exact .str _ | exact .bl _ | exact .non | exact .tup (by assumption) | exact .lst (by assumption))) (kit_ty (by decide +kernel)) ?_ | refine rd_isi (b := false) (.ty _) (.base (by first | exact .int _ | exact .str _ | exact .bl _ | exact .non | exact .tup (by assumption) | exact .lst (by assumption))) (kit_ty (by decide +kernel)) ?_)
  | with_reducible refine rd_fld ?_
  | with_reducible refine rd_sfld ?_
  | with_reducible refine rd_meth ?_
  | with_reducible refine rd_make ?_
  | with_reducible refine rd_makeK ?_
  | with_reducible refine rd_U ?_
  | with_reducible refine rd_makeKS ?_
  | with_reducible refine rd_callN ?_
  | with_reducible refine rd_rs ?_
  | with_reducible refine rd_rf ?_
  | with_reducible refine rd_star ?_
  | with_reducible refine rd_callS ?_
  | with_reducible refine rd_for ?_
  | with_reducible refine rd_lc ?_
  | with_reducible refine rd_ilist ?_
  | with_reducible refine rd_itup ?_
  | with_reducible refine rd_irng ?_
  | with_reducible refine rd_izipS ?_
  | with_reducible refine rd_ienum ?_
  | with_reducible refine rd_ienT ?_
  | with_reducible refine rd_next ?_
  | with_reducible refine rd_eq rfl ?_
  | with_reducible refine rd_ne rfl ?_
  | with_reducible refine iteT ?_
  | with_reducible refine iteF ?_
  | with_reducible refine rd_ifnT ?_
  | with_reducible refine rd_ifnF ?_
  | ((with_reducible show rI (fun _ j => (0 : Int) < j) _ _ _ _ _); refine rd_mod (by omega) ?_)
  | with_reducible refine rd_new rfl ?_
  | ((with_reducible show rIxL _ _ (V.int 0) _ _); refine rd_ixL0 (by first | assumption | exact upd_same) ?_)
  | ((with_reducible show rIxL _ _ _ _ _); refine rd_ixL (by first | assumption | exact upd_same) rfl ?_)
  | ((with_reducible show rSetL _ _ _ _ _); refine rd_setL (by first | assumption | exact upd_same) rfl ?_)
  | ((with_reducible show rI CMul _ _ _ _ _); refine rd_mul (by first | exact Or.inl ⟨by omega, by omega⟩ | exact Or.inr ⟨by omega, by omega⟩) ?_)
  | ((with_reducible show tyV _ "list" _ _ ∧ _); refine rd_tyL (by first | assumption | exact upd_same) ?_)
  | ((with_reducible show rIxT _ _ (V.int 0) _ _); refine rd_ixT0 (by first | assumption | exact upd_same) ?_)
  | ((with_reducible show rIxT _ _ _ _ _); refine rd_ixT (by first | assumption | exact upd_same) rfl ?_))
local macro_rules | `(tactic| walk_at "rd") => `(tactic| (repeat (first | walk_at "rd1" | dsimp only)))
local macro_rules | `(tactic| walk_at "rds") => `(tactic| (dsimp only [cxOf, Cx.nox, Cx.wish, Cx.blk, L2.start]; walk_at "rd"))
local macro_rules | `(tactic| walk_at "rdn") => `(tactic| (repeat (first | walk_at "rdn1" | dsimp only)))
section
variable {P : Program} {w : World} {K : PySem.W.Frag} {mg : Str → Option Value} {base : Heap}

theorem row_ok {w : Str} {ns : List Int} {l : Str} {m : Int} (h : formOf w = some l) (hl : l.cps.size = ns.length) (hf : fitsNs l.cps.toList ns m = true) : RwForm ⟨w, ns⟩ ∧ rowFits ⟨w, ns⟩ m = true := by
  refine ⟨⟨l, h, hl⟩, ?_⟩
  unfold rowFits
  show (match formOf w with | some l => fitsNs l.cps.toList ns m | none => false) = true
  rw [h]
  exact hf
def spNumK : Sp := fun vs H Q _ => ∃ (t g : Addr) (n : Nat), vs = [.ref t] ∧ Sack H t g n ∧ n ≤ 900000 ∧ ∀ (z : Int) (H' : Hp), Sack H' t g (n + 1) → Kp t g H H' → Q (.int z) H'
def spLineK : Sp := fun vs H Q _ => ∃ (t g : Addr) (n : Nat) (m ai : Int), vs = [.ref t, .int m, .int ai] ∧ Sack H t g n ∧ n ≤ 800000 ∧ 0 < m ∧ m ≤ 8 ∧ 0 ≤ ai ∧ ai ≤ 2 ∧
  ∀ (v : V) (r : Rw) (H' : Hp), Rp H' v r.d → RwForm r → rowFits r m = true → (ai = 0 → r.op ≠ ("aim" : Str)) → Sack H' t g (n + 6) → Kp t g H H' → Q v H'
theorem use_lineK {t g : Addr} {n : Nat} {m ai : Int} {H : Hp} {Q : VK} {E : XK} (T : Sack H t g n) (hn : n ≤ 800000) (h0 : 0 < m) (h1 : m ≤ 8) (a0 : 0 ≤ ai) (a2 : ai ≤ 2)
    (h : ∀ (v : V) (r : Rw) (H' : Hp), Rp H' v r.d → RwForm r → rowFits r m = true → (ai = 0 → r.op ≠ ("aim" : Str)) → Sack H' t g (n + 6) → Kp t g H H' → Q v H') : spLineK [.ref t, .int m, .int ai] H Q E := ⟨t, g, n, m, ai, rfl, T, hn, h0, h1, a0, a2, h⟩
def spWordK : Sp := fun vs H Q _ => ∃ (t g : Addr) (n : Nat) (m b : Int), vs = [.ref t, .int m, .int b] ∧ Sack H t g n ∧ n ≤ 900000 ∧ 0 < m ∧ m ≤ 8 ∧ 2 ≤ b ∧ b ≤ 1000000000000000000000000000000000000000000000000000000000000 ∧
  ∀ (v : V) (x : Wd) (H' : Hp), Rp H' v x.d → wdFits x b m = true → Sack H' t g (n + 4) → Kp t g H H' → Q v H'
theorem use_wordK {t g : Addr} {n : Nat} {m b : Int} {H : Hp} {Q : VK} {E : XK} (T : Sack H t g n) (hn : n ≤ 900000) (h0 : 0 < m) (h1 : m ≤ 8) (h2 : 2 ≤ b) (h3 : b ≤ 1000000000000000000000000000000000000000000000000000000000000)
    (h : ∀ (v : V) (x : Wd) (H' : Hp), Rp H' v x.d → wdFits x b m = true → Sack H' t g (n + 4) → Kp t g H H' → Q v H') : spWordK [.ref t, .int m, .int b] H Q E := ⟨t, g, n, m, b, rfl, T, hn, h0, h1, h2, h3, h⟩

end
end Rg

namespace Rg
open PySem PySem.Spec L2
local macro_rules | `(tactic| walk_at "rd1") => `(tactic| first
  | with_reducible refine rd_seq ?_
  | with_reducible refine rd_asg ?_
  | ((with_reducible show tVar _ _ _ _); refine rd_var rfl ?_)
  | with_reducible refine rd_c ?_
  | with_reducible refine rd_op ?_
  | with_reducible refine rd_I0 ?_
  | with_reducible refine rd_name ?_
  | with_reducible refine rd_ret ?_
  | with_reducible refine rd_ifs ?_
  | with_reducible refine rd_test ?_
  | with_reducible refine rd_tB ?_
  | with_reducible refine rd_bl ?_
  | with_reducible refine rd_drop ?_
  | with_reducible refine rd_nil ?_
  | with_reducible refine rd_cons ?_
  | with_reducible refine rd_call ?_
  | with_reducible refine rd_cb ?_
  | with_reducible refine rd_tup ?_
  | with_reducible refine rd_lst ?_
  | with_reducible refine rd_and ?_
  | with_reducible refine rd_or ?_
  | with_reducible refine rd_not ?_
  | with_reducible refine rd_andV ?_
  | with_reducible refine rd_orV ?_
  | with_reducible refine rd_notV ?_
  | with_reducible refine rd_chain ?_
  | with_reducible refine rd_un ?_
  | with_reducible refine rd_isN ?_
  | with_reducible refine rd_bm ?_
  | with_reducible refine rd_bm0 ?_
  | with_reducible refine rd_gsub ?_
  | with_reducible refine rd_sl ?_
  | with_reducible refine rd_gt ?_
  | with_reducible refine rd_yes ?_
  | with_reducible refine rd_gcons ?_
  | with_reducible refine rd_gnil ?_
  | with_reducible refine rd_part ?_
  | with_reducible refine rd_nopart ?_
  | ((with_reducible show gTup _ _ _ _ _ _ _); refine rd_gtup (by first | assumption | exact upd_same) rfl ?_)
  | ((with_reducible show gLst _ _ _ _ _ _ _); refine rd_glst (by first | assumption | exact upd_same) rfl ?_)
  | ((with_reducible show rIsi _ _ _ _); first | refine rd_isi (b := true) (.ty _) (.base (by first | exact .int _ | exact .str _ | exact .bl _ | exact .non | exact .tup (by assumption) | exact .lst (by assumption))) (kit_ty (by decide +kernel)) ?_ | refine rd_isi (b := false) (.ty _) (.base (by first | exact .int _ | exact .str _ | exact .bl _ | exact .non | exact .tup (by assumption) | exact .lst (by assumption))) (kit_ty (by decide +kernel)) ?_)
  | with_reducible refine rd_fld ?_
  | with_reducible refine rd_sfld ?_
  | with_reducible refine rd_meth ?_
  | with_reducible refine rd_make ?_
  | with_reducible refine rd_makeK ?_
  | with_reducible refine rd_U ?_
  | with_reducible refine rd_makeKS ?_
  | with_reducible refine rd_callN ?_
  | with_reducible refine rd_rs ?_
  | with_reducible refine rd_rf ?_
  | with_reducible refine rd_star ?_
  | with_reducible refine rd_callS ?_
  | with_reducible refine rd_for ?_
  | with_reducible refine rd_lc ?_
  | with_reducible refine rd_ilist ?_
  | with_reducible refine rd_itup ?_
  | with_reducible refine rd_irng ?_
  | with_reducible refine rd_izipS ?_
  | with_reducible refine rd_ienum ?_
  | with_reducible refine rd_ienT ?_
  | with_reducible refine rd_next ?_
  | with_reducible refine rd_eq rfl ?_
  | with_reducible refine rd_ne rfl ?_
  | with_reducible refine iteT ?_
  | with_reducible refine iteF ?_
  | with_reducible refine rd_ifnT ?_
  | with_reducible refine rd_ifnF ?_
  | ((with_reducible show rI (fun _ j => (0 : Int) < j) _ _ _ _ _); refine rd_mod (by omega) ?_)
  | with_reducible refine rd_new rfl ?_
  | ((with_reducible show rIxL _ _ (V.int 0) _ _); refine rd_ixL0 (by first | assumption | exact upd_same) ?_)
  | ((with_reducible show rIxL _ _ _ _ _); refine rd_ixL (by first | assumption | exact upd_same) rfl ?_)
  | ((with_reducible show rSetL _ _ _ _ _); refine rd_setL (by first | assumption | exact upd_same) rfl ?_)
  | ((with_reducible show rI CMul _ _ _ _ _); refine rd_mul (by first | exact Or.inl ⟨by omega, by omega⟩ | exact Or.inr ⟨by omega, by omega⟩) ?_)
  | ((with_reducible show tyV _ "list" _ _ ∧ _); refine rd_tyL (by first | assumption | exact upd_same) ?_)
  | ((with_reducible show rIxT _ _ (V.int 0) _ _); refine rd_ixT0 (by first | assumption | exact upd_same) ?_)
  | ((with_reducible show rIxT _ _ _ _ _); refine rd_ixT (by first | assumption | exact upd_same) rfl ?_))
local macro_rules | `(tactic| walk_at "rdn1") => `(tactic| first
  | with_reducible refine rd_seq ?_
  | with_reducible refine rd_asg ?_
  | ((with_reducible show tVar _ _ _ _); refine rd_var rfl ?_)
  | with_reducible refine rd_c ?_
  | with_reducible refine rd_op ?_
  | with_reducible refine rd_I0 ?_
  | with_reducible refine rd_name ?_
  | with_reducible refine rd_ret ?_
  | with_reducible refine rd_ifs ?_
  | with_reducible refine rd_test ?_
  | with_reducible refine rd_tB ?_
  | with_reducible refine rd_bl ?_
  | with_reducible refine rd_drop ?_
  | with_reducible refine rd_nil ?_
  | with_reducible refine rd_cons ?_
  | with_reducible refine rd_call ?_
  | with_reducible refine rd_cb ?_
  | with_reducible refine rd_tup ?_
  | with_reducible refine rd_lst ?_
  | with_reducible refine rd_and ?_
  | with_reducible refine rd_or ?_
  | with_reducible refine rd_not ?_
  | with_reducible refine rd_notV ?_
  | with_reducible refine rd_chain ?_
  | with_reducible refine rd_un ?_
  | with_reducible refine rd_isN ?_
  | with_reducible refine rd_bm ?_
  | with_reducible refine rd_bm0 ?_
  | with_reducible refine rd_gsub ?_
  | with_reducible refine rd_sl ?_
  | with_reducible refine rd_gt ?_
  | with_reducible refine rd_yes ?_
  | with_reducible refine rd_gcons ?_
  | with_reducible refine rd_gnil ?_
  | with_reducible refine rd_part ?_
  | with_reducible refine rd_nopart ?_
  | ((with_reducible show gTup _ _ _ _ _ _ _); refine rd_gtup (by first | assumption | exact upd_same) rfl ?_)
  | ((with_reducible show gLst _ _ _ _ _ _ _); refine rd_glst (by first | assumption | exact upd_same) rfl ?_)
  | ((with_reducible show rIsi _ _ _ _); first | refine rd_isi (b := true) (.ty _) (.base (by first | exact .int _ | exact .str _ | exact .bl _ | exact .non | exact .tup (by assumption) | exact .lst (by assumption))) (kit_ty (by decide +kernel)) ?_ | refine rd_isi (b := false) (.ty _) (.base (by first | exact .int _ | exact .str _ | exact .bl _ | exact .non | exact .tup (by assumption) | exact .lst (by assumption))) (kit_ty (by decide +kernel)) ?_)
  | with_reducible refine rd_fld ?_
  | with_reducible refine rd_sfld ?_
  | with_reducible refine rd_meth ?_
  | with_reducible refine rd_make ?_
  | with_reducible refine rd_makeK ?_
  | with_reducible refine rd_U ?_
  | with_reducible refine rd_makeKS ?_
  | with_reducible refine rd_callN ?_
  | with_reducible refine rd_rs ?_
  | with_reducible refine rd_rf ?_
  | with_reducible refine rd_star ?_
  | with_reducible refine rd_callS ?_
  | with_reducible refine rd_for ?_
  | with_reducible refine rd_lc ?_
  | with_reducible refine rd_ilist ?_
  | with_reducible refine rd_itup ?_
  | with_reducible refine rd_irng ?_
  | with_reducible refine rd_izipS ?_
  | with_reducible refine rd_ienum ?_
  | with_reducible refine rd_ienT ?_
  | with_reducible refine rd_next ?_
  | with_reducible refine rd_eq rfl ?_
  | with_reducible refine rd_ne rfl ?_
  | with_reducible refine iteT ?_
  | with_reducible refine iteF ?_
  | with_reducible refine rd_ifnT ?_
  | with_reducible refine rd_ifnF ?_
  | ((with_reducible show rI (fun _ j => (0 : Int) < j) _ _ _ _ _); refine rd_mod (by omega) ?_)
  | with_reducible refine rd_new rfl ?_
  | ((with_reducible show rIxL _ _ (V.int 0) _ _); refine rd_ixL0 (by first | assumption | exact upd_same) ?_)
  | ((with_reducible show rIxL _ _ _ _ _); refine rd_ixL (by first | assumption | exact upd_same) rfl ?_)
  | ((with_reducible show rSetL _ _ _ _ _); refine rd_setL (by first | assumption | exact upd_same) rfl ?_)
  | ((with_reducible show rI CMul _ _ _ _ _); refine rd_mul (by first | exact Or.inl ⟨by omega, by omega⟩ | exact Or.inr ⟨by omega, by omega⟩) ?_)
  | ((with_reducible show tyV _ "list" _ _ ∧ _); refine rd_tyL (by first | assumption | exact upd_same) ?_)
  | ((with_reducible show rIxT _ _ (V.int 0) _ _); refine rd_ixT0 (by first | assumption | exact upd_same) ?_)
  | ((with_reducible show rIxT _ _ _ _ _); refine rd_ixT (by first | assumption | exact upd_same) rfl ?_))
local macro_rules | `(tactic| walk_at "rd") => `(tactic| (repeat (first | walk_at "rd1" | dsimp only)))
local macro_rules | `(tactic| walk_at "rds") => `(tactic| (dsimp only [cxOf, Cx.nox, Cx.wish, Cx.blk, L2.start]; walk_at "rd"))
local macro_rules | `(tactic| walk_at "rdn") => `(tactic| (repeat (first | walk_at "rdn1" | dsimp only)))
section
variable {P : Program} {w : World} {K : PySem.W.Frag} {mg : Str → Option Value} {base : Heap}

theorem three_ofW {ns : List Int} {a b c : Int} (hp : ns.Perm [a, b, c]) (hs : ns.Pairwise (· ≤ ·)) (ha : 0 ≤ a ∧ a < 8) (hb : 0 ≤ b ∧ b < 8) (hc : 0 ≤ c ∧ c < 8) : ∃ x y z, ns = [x, y, z] ∧ 0 ≤ x ∧ x < 8 ∧ y < 8 ∧ z < 8 ∧ x ≤ y ∧ y ≤ z := by
  have hl := hp.length_eq
  match ns, hl with
  | [x, y, z], _ =>
    have m : ∀ u ∈ [x, y, z], 0 ≤ u ∧ u < 8 := fun u hu => by
      have := hp.mem_iff.mp hu
      simp only [List.mem_cons, List.not_mem_nil, or_false] at this
      rcases this with rfl | rfl | rfl <;> assumption
    have h1 := m x (by simp)
    have h2 := m y (by simp)
    have h3 := m z (by simp)
    simp only [List.pairwise_cons, List.mem_cons, List.not_mem_nil, or_false, forall_eq_or_imp, forall_eq] at hs
    exact ⟨x, y, z, rfl, h1.1, h1.2, h2.2, h3.2, hs.1.1, hs.2.1⟩
theorem pe_revLK {X : Cx} {K : PySem.W.Frag} {e : Expr} {te : TE} {k : Nat} {p1 p2 p3 pos : Pos} (he : PE X e te) (h : X.K = K := by rfl) : PE X (.Subscript e (.Slice none none (some (.UnaryOp .USub (.Constant (.int 1) k p1) p2)) p3) pos) (tRevL K te) := by
  subst h
  exact pe_revL he
/-- four lists of rings -/
structure Li4 (H : Hp) (L a b c d : Addr) (as bs cs ds : List Int) : Prop where
  l : H L = some (.lst [.ref a, .ref b, .ref c, .ref d])
  x : L4 H a b c d as bs cs ds
theorem Li4.same {H H' : Hp} {L a b c d : Addr} {as bs cs ds : List Int} (h : Li4 H L a b c d as bs cs ds) (s : Same H H') : Li4 H' L a b c d as bs cs ds := ⟨s _ _ h.l, h.x.same s⟩
/-- lists of rings while they are drawn: the bag's two objects are none of them -/
structure LiR (H : Hp) (t g L : Addr) (n : Nat) (rows : List (Addr × List Int)) : Prop where
  l : H L = some (.lst (rows.map fun r => V.ref r.1))
  lt : L ≠ t
  lg : L ≠ g
  r : ∀ x ∈ rows, H x.1 = some (.lst (x.2.map V.int)) ∧ x.1 ≠ L ∧ x.1 ≠ t ∧ x.1 ≠ g ∧ x.2.length ≤ n ∧ ∀ z ∈ x.2, 0 ≤ z ∧ z < 8
theorem LiR.kp {H H' : Hp} {t g L : Addr} {n : Nat} {rows : List (Addr × List Int)} (h : LiR H t g L n rows) (k : Kp t g H H') : LiR H' t g L n rows :=
  ⟨k _ _ h.l h.lt h.lg, h.lt, h.lg, fun x hx => by obtain ⟨h1, h2, h3, h4, h5⟩ := h.r x hx; exact ⟨k _ _ h1 h3 h4, h2, h3, h4, h5⟩⟩
theorem LiR.same {H H' : Hp} {t g L : Addr} {n : Nat} {rows : List (Addr × List Int)} (h : LiR H t g L n rows) (s : Same H H') : LiR H' t g L n rows := h.kp (Kp.of s)
theorem LiR.mono {H : Hp} {t g L : Addr} {n m : Nat} {rows : List (Addr × List Int)} (h : LiR H t g L n rows) (hn : n ≤ m) : LiR H t g L m rows :=
  ⟨h.l, h.lt, h.lg, fun x hx => by obtain ⟨h1, h2, h3, h4, h5, h6⟩ := h.r x hx; exact ⟨h1, h2, h3, h4, by omega, h6⟩⟩
theorem LiR.at {H : Hp} {t g L : Addr} {n : Nat} {rows : List (Addr × List Int)} (h : LiR H t g L n rows) {k : Nat} (hk : k < rows.length) : ∃ x, rows[k]? = some x ∧ x ∈ rows ∧ atI (rows.map fun r => V.ref r.1) (k : Int) = some (.ref x.1) ∧ H x.1 = some (.lst (x.2.map V.int)) := by
  have e : rows[k]? = some rows[k] := List.getElem?_eq_getElem hk
  refine ⟨rows[k], e, List.getElem_mem hk, at_of rfl (by rw [List.getElem?_map, e]; rfl), (h.r _ (List.getElem_mem hk)).1⟩
theorem LiR.set {H : Hp} {t g L y : Addr} {n : Nat} {rows : List (Addr × List Int)} {zs : List Int} (h : LiR H t g L n rows) (k : Nat) (hy : H y = some (.lst (zs.map V.int))) (n1 : y ≠ L) (n2 : y ≠ t) (n3 : y ≠ g) (hl : zs.length ≤ n) (hz : ∀ z ∈ zs, 0 ≤ z ∧ z < 8) :
    LiR (upd H L (.lst ((rows.map fun r => V.ref r.1).set k (.ref y)))) t g L n (rows.set k (y, zs)) := by
  refine ⟨by rw [upd_same, List.map_set], h.lt, h.lg, fun x hx => ?_⟩
  rcases List.mem_or_eq_of_mem_set hx with h1 | h1
  · obtain ⟨a1, a2, a3, a4, a5⟩ := h.r x h1
    exact ⟨by rw [upd_ne a2]; exact a1, a2, a3, a4, a5⟩
  · subst h1
    exact ⟨by rw [upd_ne n1]; exact hy, n1, n2, n3, hl, hz⟩
theorem LiR.li4 {H : Hp} {t g L : Addr} {n : Nat} {rows : List (Addr × List Int)} (h : LiR H t g L n rows) (h4 : rows.length = 4) : ∃ a b c d as bs cs ds, Li4 H L a b c d as bs cs ds ∧ Rgs n as bs cs ds := by
  match rows, h4 with
  | [(a, as), (b, bs), (c, cs), (d, ds)], _ =>
    have ra := h.r (a, as) (by simp)
    have rb := h.r (b, bs) (by simp)
    have rc := h.r (c, cs) (by simp)
    have rd := h.r (d, ds) (by simp)
    refine ⟨a, b, c, d, as, bs, cs, ds, ⟨h.l, ra.1, rb.1, rc.1, rd.1⟩, fun zs hz => ?_⟩
    simp only [List.mem_cons, List.not_mem_nil, or_false] at hz
    rcases hz with rfl | rfl | rfl | rfl
    · exact ra.2.2.2.2
    · exact rb.2.2.2.2
    · exact rc.2.2.2.2
    · exact rd.2.2.2.2
def spLists : Sp := fun vs H Q _ => ∃ (t g : Addr) (n : Nat), vs = [.ref t] ∧ Sack H t g n ∧ n ≤ 1000 ∧
  ∀ (L a b c d : Addr) (as bs cs ds : List Int) (H' : Hp), Li4 H' L a b c d as bs cs ds → Rgs 60 as bs cs ds → Q (.ref L) H'
theorem ok_lists {f : Addr} {fd : FuncData} (B : BT mg) (F : Fun K "_law_lists" "_law_lists" s_law_lists f fd) (hm : mg "_law_lists" = some (.ref f)) (C_law_draw : Cal P w K mg base "_law_draw" 1 ["bag", "many"] spDrawK) (C_law_may : Cal P w K mg base "_law_may" 1 ["brackets", "rights", "ring"] spMayL) : Cal P w K mg base "_law_lists" 2 ["bag"] spLists := by
  refine ⟨f, fd, hm, F.kp, F.binds (ps := ["bag"]) fun _ _ _ _ _ _ us hl => match us, hl with | [_], _ => rfl, ?_⟩
  refine F.ok sc_law_lists (fun vs H Q E h => ?_) (fun cdv A outer s H vs Q E hr h => ?_)
  · obtain ⟨t, g, n, rfl, _⟩ := h
    rfl
  · obtain ⟨t, g, n, rfl, T, hn, k⟩ := h
    refine ⟨_, (pss_cons (ps_set (i := 1) sc_law_lists.nd rfl (Or.inl rfl) (pe_cal C_law_draw (hr.mono (by omega)) rfl (pa_cons (pv 0) (pa_cons pe_int pa_nil))))
 (pss_cons (ps_if (pt_cmpR op_eq (pv 1) pe_int (nomark _)) (pss_one (ps_ret (pe_lc (own := [("line", 12)]) (g := gName 12) (tt := tYes) rfl sc_law_lists.nd (pi_range1 rfl B.g_range (pa_cons pe_int pa_nil)) (blkOk_by (own := [("line", 12)]) (N := ["bag", "shape", "low", "more", "further", "brackets", "rights", "lists", "ring", "may", "k", "turn", "line", "one"]) (sc := defScope s_law_lists) (by decide +kernel)) (fun _ _ _ _ _ => (pg_name (i := 12) sc_law_lists.nd rfl (by first | exact Or.inl rfl | exact Or.inr rfl))) (fun _ _ _ _ _ => pts_nil) (fun _ _ _ _ _ => (pe_lc (own := [("k", 10)]) (g := gName 10) (tt := tYes) rfl sc_law_lists.nd (pi_range1 rfl B.g_range (pa_cons (pe_cal C_law_draw (hr.mono (by omega)) rfl (pa_cons (pv 0) (pa_cons pe_int pa_nil))) pa_nil)) (by dsimp only [Cx.blk, compEnvC]; exact blkOk_by (own := [("k", 10)]) (N := ["bag", "shape", "low", "more", "further", "brackets", "rights", "lists", "ring", "may", "k", "turn", "line", "one"]) rfl) (fun _ _ _ _ _ => (pg_name (i := 10) sc_law_lists.nd rfl (by first | exact Or.inl rfl | exact Or.inr rfl))) (fun _ _ _ _ _ => pts_nil) (fun _ _ _ _ _ => (pe_cal C_law_draw (hr.mono (by omega)) rfl (pa_cons (pv 0) (pa_cons pe_int pa_nil))))))))) pss_nil)
 (pss_cons (ps_par3 (i := 2) (j := 3) (l := 4) (by rfl) sc_law_lists.nd rfl rfl rfl (by decide) (by decide) (by decide) rfl rfl rfl (pa_cons (pe_cal C_law_draw (hr.mono (by omega)) rfl (pa_cons (pv 0) (pa_cons pe_int pa_nil))) (pa_cons (pe_cal C_law_draw (hr.mono (by omega)) rfl (pa_cons (pv 0) (pa_cons pe_int pa_nil))) (pa_cons (pe_cal C_law_draw (hr.mono (by omega)) rfl (pa_cons (pv 0) (pa_cons pe_int pa_nil))) pa_nil))) (by rfl))
 (pss_cons (ps_set (i := 5) sc_law_lists.nd rfl (Or.inl rfl) (pe_callTy (cr_tupOf (K := K)) rfl B.g_tuple (by decide +kernel) (pa_cons (pe_callB (r := rSorted K) cr_sorted rfl B.g_sorted (by decide +kernel) (pa_cons (pe_lst (pa_cons (pv 2) (pa_cons (pv 3) (pa_cons (pv 4) pa_nil)))) pa_nil)) pa_nil)))
 (pss_cons (ps_set (i := 6) sc_law_lists.nd rfl (Or.inl rfl) (pe_ix (r := rIxT K) ix_tup (pe_tup (pa_cons pe_str (pa_cons pe_str (pa_cons pe_str (pa_cons pe_str (pa_cons pe_str (pa_cons pe_str (pa_cons pe_str (pa_cons pe_str pa_nil))))))))) (pe_cal C_law_draw (hr.mono (by omega)) rfl (pa_cons (pv 0) (pa_cons pe_int pa_nil))) (fun _ _ => rfl)))
 (pss_cons (ps_set (i := 7) sc_law_lists.nd rfl (Or.inl rfl) (pe_lst (pa_cons (pe_lst pa_nil) (pa_cons (pe_lst pa_nil) (pa_cons (pe_lst pa_nil) (pa_cons (pe_lst pa_nil) pa_nil))))))
 (pss_cons (ps_for PassesOwn.never rfl (pi_range1 rfl B.g_range (pa_cons pe_int pa_nil)) (pg_name (i := 8) sc_law_lists.nd rfl (Or.inr rfl))
 (pss_cons (ps_set (i := 9) sc_law_lists.nd rfl (Or.inl rfl) (pe_cal C_law_may (hr.mono (by omega)) rfl (pa_cons (pv 5) (pa_cons (pv 6) (pa_cons (pv 8) pa_nil)))))
 (pss_one (ps_for PassesOwn.never rfl (pi_range1 rfl B.g_range (pa_cons pe_int pa_nil)) (pg_name (i := 10) sc_law_lists.nd rfl (Or.inl rfl))
 (pss_one (ps_asg (pe_op op_cat (pe_ix (r := rIxL K) ix_list (pv 7) (pv 10) (fun _ _ => rfl)) (pe_op op_rep (pe_lst (pa_cons (pv 8) pa_nil)) (pe_callTy call_int1 rfl B.g_int (by decide +kernel) (pa_cons (pe_ix (r := rIxT K) ix_tup (pv 9) (pv 10) (fun _ _ => rfl)) pa_nil)))) (pg_sub (pv 7) (pv 10) set_list)))))))
 (pss_cons (ps_for PassesOwn.never rfl (pi_range1 rfl B.g_range (pa_cons (pv 1) pa_nil)) (pg_name (i := 11) sc_law_lists.nd rfl (Or.inl rfl))
 (pss_cons (ps_asg (pe_tup (pa_cons (pe_cal C_law_draw (hr.mono (by omega)) rfl (pa_cons (pv 0) (pa_cons pe_int pa_nil))) (pa_cons (pe_cal C_law_draw (hr.mono (by omega)) rfl (pa_cons (pv 0) (pa_cons pe_int pa_nil))) pa_nil))) (pg_tup (by rfl) (pgs_cons (pg_name (i := 10) sc_law_lists.nd rfl (Or.inl rfl)) (pgs_cons (pg_name (i := 8) sc_law_lists.nd rfl (Or.inr rfl)) pgs_nil))))
 (pss_one (ps_if (pt_cmpR (r := rIn K false) op_in_seq (pv 8) (pe_ix (r := rIxL K) ix_list (pv 7) (pv 10) (fun _ _ => rfl)) (by rfl)) (pss_one (ps_asg (pe_lc (own := [("one", 13)]) (g := gName 13) rfl sc_law_lists.nd (pi_listK (K := K) (pe_ix (r := rIxL K) ix_list (pv 7) (pv 10) (fun _ _ => rfl))) (blkOk_by (own := [("one", 13)]) (N := ["bag", "shape", "low", "more", "further", "brackets", "rights", "lists", "ring", "may", "k", "turn", "line", "one"]) (sc := defScope s_law_lists) (by decide +kernel)) (fun _ _ _ _ _ => (pg_name (i := 13) sc_law_lists.nd rfl (by first | exact Or.inl rfl | exact Or.inr rfl))) (fun _ _ _ _ _ => (pts_one (pt_cmpR op_ne (pv 13) (pv 8) (nomark _)))) (fun _ _ _ _ _ => (pv 13))) (pg_sub (pv 7) (pv 10) set_list))) (pss_one (ps_asg (pe_op op_cat (pe_ix (r := rIxL K) ix_list (pv 7) (pv 10) (fun _ _ => rfl)) (pe_lst (pa_cons (pv 8) pa_nil))) (pg_sub (pv 7) (pv 10) set_list)))))))
 (pss_cons (ps_if (pt_cmpR op_eq (pe_cal C_law_draw (hr.mono (by omega)) rfl (pa_cons (pv 0) (pa_cons pe_int pa_nil))) pe_int (nomark _)) (pss_one (ps_setLc (i := 7) (own := [("one", 13)]) (g := gName 13) (tt := tYes) rfl sc_law_lists.nd rfl rfl (sw_true rfl rfl rfl (by decide +kernel)) (pi_listK (K := K) (pv 7)) (blkOk_by (own := [("one", 13)]) (N := ["bag", "shape", "low", "more", "further", "brackets", "rights", "lists", "ring", "may", "k", "turn", "line", "one"]) (sc := defScope s_law_lists) (by decide +kernel)) (fun _ _ _ _ _ => (pg_name (i := 13) sc_law_lists.nd rfl (by first | exact Or.inl rfl | exact Or.inr rfl))) (fun _ _ _ _ _ => pts_nil) (fun _ _ _ _ _ => (pe_op op_cat (pe_revLK (K := K) (pv 13)) (pe_slice (r := rSlL K) sl_list (pv 13) po_none (po_some pe_int)))))) pss_nil)
 (pss_one (ps_ret (pv 7)))))))))))), ?_⟩
    walk_at "rds"
    refine use_drawK T (by omega) (by decide) (by decide) fun sh H1 sh0 sh4 T1 k1 => ?_
    walk_at "rd"
    refine rd_ifI (fun he => ?_) (fun he => ?_)
    · walk_at "rd"
      refine ⟨4, rfl, by decide, by decide, fun D hD => ?_⟩
      refine lc_it (walk_range (n := 4)) (fun i H' => ∃ rows : List (Addr × List Int), LiR H' t g D 60 rows ∧ rows.length = i ∧ Sack H' t g (n + 1 + 5 * i)) ⟨[], ⟨upd_same, T1.net hD, T1.neg hD, fun x hx => (nomatch hx)⟩, rfl, T1.new hD⟩ (fun _ _ _ _ => trivial) ?_ ?_
      · rintro i y Ha Hb hi ⟨rows, R, hlen, Ta⟩ ⟨rfl, rfl⟩
        walk_at "rd"
        refine ⟨rfl, ?_⟩
        walk_at "rd"
        refine use_drawK Ta (by omega) (by decide) (by decide) fun m H2 m0 m5 T2 k2 => ?_
        refine ⟨m, rfl, by omega, by omega, fun D2 hD2 => ?_⟩
        have R2 := R.kp k2
        have nDD : D2 ≠ D := Ne.symm (ne_of_none R2.l hD2)
        refine lc_it (walk_range (n := m.toNat)) (fun j H' => ∃ zs : List Int, H' D2 = some (.lst (zs.map V.int)) ∧ zs.length = j ∧ (∀ z ∈ zs, 0 ≤ z ∧ z < 8) ∧ Sack H' t g (n + 1 + 5 * i + 1 + j) ∧ LiR H' t g D 60 rows ∧ ∀ x ∈ rows, x.1 ≠ D2) ⟨[], upd_same, rfl, fun z hz => (nomatch hz), T2.new hD2, R2.same (same_upd hD2), fun x hx => ne_of_none (R2.r x hx).1 hD2⟩ (fun _ _ _ _ => trivial) ?_ ?_
        · rintro j y2 Hc Hd hj ⟨zs, hzs, lz, bz, Tc, Rc, nr⟩ ⟨rfl, rfl⟩
          walk_at "rd"
          refine ⟨rfl, ?_⟩
          walk_at "rd"
          refine use_drawK Tc (by omega) (by decide) (by decide) fun z H3 z0 z8 T3 k3 => ?_
          have h3 := k3 _ _ hzs (T2.net hD2) (T2.neg hD2)
          refine ⟨_, h3, small1000 (by rw [List.length_map, lz]; omega), zs ++ [z], by rw [upd_same, List.map_append]; rfl, by simp [lz], fun x hx => ?_, ?_, ?_, nr⟩
          · rcases List.mem_append.mp hx with q | q
            · exact bz x q
            · rw [List.mem_singleton.mp q]; exact ⟨z0, z8⟩
          · exact (T3.put (T2.net hD2) (T2.neg hD2)).mono (by omega)
          · have R3 := Rc.kp k3
            exact ⟨by rw [upd_ne (Ne.symm nDD)]; exact R3.l, R3.lt, R3.lg, fun x hx => by rw [upd_ne (nr x hx)]; exact R3.r x hx⟩
        · rintro Hc ⟨zs, hzs, lz, bz, Tc, Rc, nr⟩
          refine ⟨_, Rc.l, small1000 (by rw [List.length_map, hlen]; omega), rows ++ [(D2, zs)], ?_, by simp [hlen], (Tc.put R.lt R.lg).mono (by omega)⟩
          refine ⟨by rw [upd_same, List.map_append]; rfl, R.lt, R.lg, fun x hx => ?_⟩
          rcases List.mem_append.mp hx with q | q
          · obtain ⟨a1, a2, a3⟩ := Rc.r x q
            exact ⟨by rw [upd_ne a2]; exact a1, a2, a3⟩
          · rw [List.mem_singleton.mp q]
            exact ⟨by rw [upd_ne nDD]; exact hzs, nDD, T2.net hD2, T2.neg hD2, by show zs.length ≤ 60; omega, bz⟩
      · rintro Ha ⟨rows, R, hlen, Ta⟩
        obtain ⟨a, b, c, d, as, bs, cs, ds, h1, h2⟩ := R.li4 hlen
        exact k D a b c d as bs cs ds Ha h1 h2
    · walk_at "rd"
      refine rd_par3 ?_
      walk_at "rd"
      refine use_drawK T1 (by omega) (by decide) (by decide) fun r1 H2 a1 b1 T2 k2 => ?_
      walk_at "rd"
      refine use_drawK T2 (by omega) (by decide) (by decide) fun r2 H3 a2 b2 T3 k3 => ?_
      walk_at "rd"
      refine use_drawK T3 (by omega) (by decide) (by decide) fun r3 H4 a3 b3 T4 k4 => ?_
      refine ⟨_, _, _, rfl, ?_⟩
      walk_at "rd"
      intro p1 h1
      walk_at "rd"
      refine ⟨p1, [r1, r2, r3], rfl, SqL.of upd_same, (by show 3 < 64; decide), fun ns' p2 pm ps h2 => ?_⟩
      obtain ⟨lo, mi, la, rfl, x0, x8, y8, z8, xy, yz⟩ := three_ofW pm ps ⟨a1, b1⟩ ⟨a2, b2⟩ ⟨a3, b3⟩
      refine ⟨p2, _, rfl, .inl ⟨SqL.of upd_same, fun pb hpb => ?_⟩⟩
      have sB := ((same_upd (o := .lst ([r1, r2, r3].map V.int)) h1).trans (same_upd (o := .lst ([lo, mi, la].map V.int)) h2)).trans (same_upd (o := .tup ([lo, mi, la].map V.int)) hpb)
      have eB : upd (upd (upd H4 p1 (.lst ([r1, r2, r3].map V.int))) p2 (.lst ([lo, mi, la].map V.int))) pb (.tup ([lo, mi, la].map V.int)) pb = some (.tup [.int lo, .int mi, .int la]) := upd_same
      generalize hHB : upd (upd (upd H4 p1 (.lst ([r1, r2, r3].map V.int))) p2 (.lst ([lo, mi, la].map V.int))) pb (.tup ([lo, mi, la].map V.int)) = HB at sB eB
      rw [show upd (upd (upd H4 p1 (.lst [V.int r1, V.int r2, V.int r3])) p2 (.lst ([lo, mi, la].map V.int))) pb (.tup ([lo, mi, la].map V.int)) = HB from hHB]
      have TB := T4.same sB
      clear hHB
      have rpB : Rp HB (.ref pb) (triD [lo, mi, la]) := .tup eB (RpAll.ints [lo, mi, la])
      walk_at "rd"
      intro tp htp
      have s1 := same_upd (o := .tup (rightsO.map V.str)) htp
      have t1 : upd HB tp (.tup (rightsO.map V.str)) tp = some (.tup (rightsO.map V.str)) := upd_same
      generalize hH1 : upd HB tp (.tup (rightsO.map V.str)) = HC at s1 t1
      replace hH1 : upd HB tp (.tup [.str "", .str "r", .str "rw", .str "rwx", .str "rx", .str "w", .str "wx", .str "x"]) = HC := hH1
      rw [hH1]
      clear hH1
      have TC := TB.same s1
      have rpC := rpB.keep (Tk.of s1)
      walk_at "rd"
      refine use_drawK TC (by omega) (by decide) (by decide) fun r4 H5 a4 b4 T5 k5 => ?_
      obtain ⟨ri, hri, eri⟩ := at_str (l := rightsO) a4 b4
      refine rd_ixT (k5.sk TC _ _ t1) eri ?_
      have rp5 := rpC.keep (k5.sk TC)
      walk_at "rd"
      intro q0 hq0
      have T6 := T5.new (o := .lst []) hq0
      have rp6 := rp5.keep (Tk.new (o := .lst []) hq0)
      have n0 := And.intro (T5.net hq0) (T5.neg hq0)
      have e0 : upd H5 q0 (.lst []) q0 = some (.lst []) := upd_same
      generalize upd H5 q0 (.lst []) = H6 at T6 rp6 e0
      walk_at "rd"
      intro q1 hq1
      have T7 := T6.new (o := .lst []) hq1
      have rp7 := rp6.keep (Tk.new (o := .lst []) hq1)
      have n1 := And.intro (T6.net hq1) (T6.neg hq1)
      have e1 : upd H6 q1 (.lst []) q1 = some (.lst []) := upd_same
      have e01 : upd H6 q1 (.lst []) q0 = some (.lst []) := same_upd hq1 _ _ e0
      generalize upd H6 q1 (.lst []) = H7 at T7 rp7 e1 e01
      walk_at "rd"
      intro q2 hq2
      have T8 := T7.new (o := .lst []) hq2
      have rp8 := rp7.keep (Tk.new (o := .lst []) hq2)
      have n2 := And.intro (T7.net hq2) (T7.neg hq2)
      have e2 : upd H7 q2 (.lst []) q2 = some (.lst []) := upd_same
      have e02 : upd H7 q2 (.lst []) q0 = some (.lst []) := same_upd hq2 _ _ e01
      have e12 : upd H7 q2 (.lst []) q1 = some (.lst []) := same_upd hq2 _ _ e1
      generalize upd H7 q2 (.lst []) = H8 at T8 rp8 e2 e02 e12
      walk_at "rd"
      intro q3 hq3
      have T9 := T8.new (o := .lst []) hq3
      have rp9 := rp8.keep (Tk.new (o := .lst []) hq3)
      have n3 := And.intro (T8.net hq3) (T8.neg hq3)
      have e3 : upd H8 q3 (.lst []) q3 = some (.lst []) := upd_same
      have e03 : upd H8 q3 (.lst []) q0 = some (.lst []) := same_upd hq3 _ _ e02
      have e13 : upd H8 q3 (.lst []) q1 = some (.lst []) := same_upd hq3 _ _ e12
      have e23 : upd H8 q3 (.lst []) q2 = some (.lst []) := same_upd hq3 _ _ e2
      generalize upd H8 q3 (.lst []) = H9 at T9 rp9 e3 e03 e13 e23
      walk_at "rd"
      intro L hL
      have sL := same_upd (o := .lst [.ref q0, .ref q1, .ref q2, .ref q3]) hL
      have TL := T9.new (o := .lst [.ref q0, .ref q1, .ref q2, .ref q3]) hL
      have rpL := rp9.keep (Tk.new (o := .lst [.ref q0, .ref q1, .ref q2, .ref q3]) hL)
      have R0 : LiR (upd H9 L (.lst [.ref q0, .ref q1, .ref q2, .ref q3])) t g L 0 [(q0, []), (q1, []), (q2, []), (q3, [])] := by
        refine ⟨upd_same, T9.net hL, T9.neg hL, fun x hx => ?_⟩
        simp only [List.mem_cons, List.not_mem_nil, or_false] at hx
        rcases hx with rfl | rfl | rfl | rfl
        · exact ⟨sL _ _ e03, ne_of_none e03 hL, n0.1, n0.2, Nat.le_refl _, fun z hz => (nomatch hz)⟩
        · exact ⟨sL _ _ e13, ne_of_none e13 hL, n1.1, n1.2, Nat.le_refl _, fun z hz => (nomatch hz)⟩
        · exact ⟨sL _ _ e23, ne_of_none e23 hL, n2.1, n2.2, Nat.le_refl _, fun z hz => (nomatch hz)⟩
        · exact ⟨sL _ _ e3, ne_of_none e3 hL, n3.1, n3.2, Nat.le_refl _, fun z hz => (nomatch hz)⟩
      clear sL e0 e01 e02 e03 e1 e12 e13 e2 e23 e3
      generalize upd H9 L (.lst [.ref q0, .ref q1, .ref q2, .ref q3]) = HL at TL rpL R0
      have R1 : ∃ rows : List (Addr × List Int), LiR HL t g L 0 rows ∧ rows.length = 4 := ⟨_, R0, rfl⟩
      clear R0 T5 T6 T7 T8 T9 rp5 rp6 rp7 rp8 rp9 T TB TC k1 k2 k3 k4 k5 sB s1 eB rpB rpC hri eri T1 T2 T3 T4
      walk_at "rd"
      refine ⟨8, rfl, by decide, by decide, ?_⟩
      refine for_inv (walk_range (n := 8)) (fun i σ' H' => (∃ c8 c9 c10, σ' = [some (.ref t), some (.int sh), some (.int r1), some (.int r2), some (.int r3), some (.ref pb), some (.str ri), some (.ref L), c8, c9, c10, none, none, none]) ∧ (∃ rows : List (Addr × List Int), LiR H' t g L (4 * i) rows ∧ rows.length = 4) ∧ Sack H' t g (n + 20) ∧ Rp H' (.ref pb) (triD [lo, mi, la])) ⟨⟨_, _, _, rfl⟩, R1, TL.mono (by omega), rpL⟩ (fun _ _ _ _ _ => trivial) ?_ ?_
      · rintro B' i x0 σ1 Ha Hb hi ⟨⟨c8, c9, c10, rfl⟩, ⟨rows, Ra, lra⟩, Ta, rpa⟩ ⟨rfl, rfl⟩
        walk_at "rd"
        refine ⟨pb, lo, mi, _, 0 + (i : Int), ri, rfl, rpa, fun q Hc hq sc => ?_⟩
        walk_at "rd"
        refine ⟨4, rfl, by decide, by decide, ?_⟩
        refine for_inv (walk_range (n := 4)) (fun kk σ' H' => (∃ c10, σ' = [some (.ref t), some (.int sh), some (.int r1), some (.int r2), some (.int r3), some (.ref pb), some (.str ri), some (.ref L), some (.int (0 + (i : Int))), some (.ref q), c10, none, none, none]) ∧ (∃ rows : List (Addr × List Int), LiR H' t g L (4 * i + kk) rows ∧ rows.length = 4) ∧ Sack H' t g (n + 20) ∧ Rp H' (.ref pb) (triD [lo, mi, _]) ∧ ∃ b0 b1 b2 b3, H' q = some (.tup [.bl b0, .bl b1, .bl b2, .bl b3])) ⟨⟨_, rfl⟩, ⟨rows, Ra.same sc, lra⟩, Ta.same sc, rpa.keep (Tk.of sc), _, _, _, _, hq⟩ (fun _ _ _ _ _ => trivial) ?_ ?_
        · rintro B2 kk x1 σ2 Hd He hk ⟨⟨c10, rfl⟩, ⟨rows, Rd, ld⟩, Td, rpd, b0, b1, b2, b3, hqd⟩ ⟨rfl, rfl⟩
          have hk4 : kk < 4 := hk
          obtain ⟨x, hx1, hx2, hx3, hx4⟩ := Rd.at (k := kk) (by omega)
          have hx3' : atI (rows.map fun r => V.ref r.1) (0 + (kk : Int)) = some (.ref x.1) := by rw [Int.zero_add]; exact hx3
          have hb : ∃ b, atI [V.bl b0, .bl b1, .bl b2, .bl b3] (0 + (kk : Int)) = some (.bl b) := by
            match kk, hk4 with
            | 0, _ => exact ⟨b0, rfl⟩
            | 1, _ => exact ⟨b1, rfl⟩
            | 2, _ => exact ⟨b2, rfl⟩
            | 3, _ => exact ⟨b3, rfl⟩
          obtain ⟨b, hb⟩ := hb
          have xr := Rd.r x hx2
          walk_at "rd"
          refine rd_ixL Rd.l hx3' ?_
          walk_at "rd"
          intro p1 hp1
          have s1 := same_upd (o := .lst [.int (0 + (i : Int))]) hp1
          have e1 : upd He p1 (.lst [.int (0 + (i : Int))]) p1 = some (.lst [.int (0 + (i : Int))]) := upd_same
          generalize upd He p1 (.lst [.int (0 + (i : Int))]) = H1 at s1 e1
          walk_at "rd"
          refine rd_ixT (s1 _ _ hqd) hb ?_
          walk_at "rd"
          refine .inr ⟨b, rfl, ?_⟩
          refine ⟨p1, _, _, rfl, rfl, e1, by cases b <;> decide, by cases b <;> decide, (by cases b with | false => exact Nat.zero_le _ | true => show 1 * 1 ≤ sizeLine; decide), fun p2 hp2 => ?_⟩
          have ef : (List.replicate (if b = true then (1 : Int) else 0).toNat [V.int (0 + (i : Int))]).flatten = (if b = true then [0 + (i : Int)] else []).map V.int := by cases b <;> rfl
          rw [ef]
          have lz : (if b = true then [0 + (i : Int)] else []).length ≤ 1 := by cases b <;> simp
          have bz : ∀ z ∈ (if b = true then [0 + (i : Int)] else []), 0 ≤ z ∧ z < 8 := fun z hz => by
            cases b with
            | false => exact nomatch hz
            | true =>
              have := List.mem_singleton.mp hz
              omega
          generalize (if b = true then [0 + (i : Int)] else []) = ys at lz bz
          have s2 := same_upd (o := .lst (ys.map V.int)) hp2
          have e2 : upd H1 p2 (.lst (ys.map V.int)) p2 = some (.lst (ys.map V.int)) := upd_same
          generalize upd H1 p2 (.lst (ys.map V.int)) = H2 at s2 e2
          refine ⟨x.1, p2, _, _, rfl, rfl, s2 _ _ (s1 _ _ xr.1), e2, Nat.le_of_lt (small1000 (by rw [List.length_map, List.length_map]; have := xr.2.2.2.2.1; omega)), fun p3 hp3 => ?_⟩
          rw [← List.map_append]
          have s3 := same_upd (o := .lst ((x.2 ++ ys).map V.int)) hp3
          have e3 : upd H2 p3 (.lst ((x.2 ++ ys).map V.int)) p3 = some (.lst ((x.2 ++ ys).map V.int)) := upd_same
          have s13 := (s1.trans s2).trans s3
          have R3 := (Rd.same s13).mono (m := 4 * i + (kk + 1)) (by omega)
          have T3 := Td.same s13
          have n3 : p3 ≠ L ∧ p3 ≠ t ∧ p3 ≠ g := ⟨Ne.symm (ne_of_none (s2 _ _ (s1 _ _ Rd.l)) hp3), (Td.same (s1.trans s2)).net hp3, (Td.same (s1.trans s2)).neg hp3⟩
          generalize upd H2 p3 (.lst ((x.2 ++ ys).map V.int)) = H3 at s3 e3 s13 R3 T3
          walk_at "rd"
          refine rd_setL (j := kk) R3.l (by rw [List.length_map, ld, Int.zero_add]; exact ixN_nat rfl hk4) ?_
          have R4 := R3.set (y := p3) (zs := x.2 ++ ys) kk e3 n3.1 n3.2.1 n3.2.2 (by rw [List.length_append]; have := xr.2.2.2.2.1; omega) (fun z hz => (List.mem_append.mp hz).elim (xr.2.2.2.2.2 z) (bz z))
          have tkL : Tk H3 (upd H3 L (.lst ((rows.map fun r => V.ref r.1).set kk (.ref p3)))) := Tk.lst R3.l
          exact ⟨⟨_, rfl⟩, ⟨_, R4, by rw [List.length_set]; exact ld⟩, T3.put R3.lt R3.lg, (rpd.keep (Tk.of s13)).keep tkL, b0, b1, b2, b3, tkL _ _ (s13 _ _ hqd)⟩
        · rintro σ2 Hd ⟨⟨c10, rfl⟩, ⟨rows, Rd, ld⟩, Td, rpd, _⟩
          exact ⟨⟨_, _, _, rfl⟩, ⟨rows, Rd.mono (by omega), ld⟩, Td, rpd⟩
      · rintro σ1 Ha ⟨⟨c8, c9, c10, rfl⟩, ⟨rows, Ra, lra⟩, Ta, rpa⟩
        walk_at "rd"
        refine ⟨sh, rfl, by omega, by omega, ?_⟩
        refine for_inv (walk_range (n := sh.toNat)) (fun i σ' H' => (∃ c8 c9 c10 c11, σ' = [some (.ref t), some (.int sh), some (.int r1), some (.int r2), some (.int r3), some (.ref pb), some (.str ri), some (.ref L), c8, c9, c10, c11, none, none]) ∧ (∃ rows : List (Addr × List Int), LiR H' t g L (32 + i) rows ∧ rows.length = 4) ∧ Sack H' t g (n + 20 + 2 * i)) ⟨⟨_, _, _, _, rfl⟩, ⟨rows, Ra, lra⟩, Ta⟩ (fun _ _ _ _ _ => trivial) ?_ ?_
        · rintro B' i x0 σ1 Hb Hc hi ⟨⟨c8, c9, c10, c11, rfl⟩, ⟨rows, Rb, lb⟩, Tb⟩ ⟨rfl, rfl⟩
          walk_at "rd"
          refine use_drawK Tb (by omega) (by decide) (by decide) fun kk H1 a1 b1 T1 k1 => ?_
          walk_at "rd"
          refine use_drawK T1 (by omega) (by decide) (by decide) fun rr H2 a2 b2 T2 k2 => ?_
          walk_at "rd"
          intro tp htp
          have R2 := Rb.kp (k1.trans k2)
          have s0 := same_upd (o := .tup [.int kk, .int rr]) htp
          have T0 := T2.same s0
          replace R2 := (R2.same s0).mono (m := 32 + (i + 1)) (by omega)
          obtain ⟨x, hx1, hx2, hx3, hx4⟩ := R2.at (k := kk.toNat) (by omega)
          have hx3' : atI (rows.map fun r => V.ref r.1) kk = some (.ref x.1) := by rw [← Int.toNat_of_nonneg a1]; exact hx3
          have xr := R2.r x hx2
          have xl : x.2.length ≤ 32 + i := by
            have := (Rb.r x hx2).2.2.2.2.1
            exact this
          walk_at "rd"
          clear s0
          generalize upd H2 tp (.tup [.int kk, .int rr]) = H3 at R2 T0 hx4 xr
          refine rd_ixL R2.l hx3' ?_
          walk_at "rd"
          refine rd_in hx4 rfl (flI x.2) ?_
          rw [inI]
          walk_at "rd"
          refine rd_ifd (fun hin => ?_) (fun hin => ?_)
          · walk_at "rd"
            refine rd_ixL R2.l hx3' ?_
            walk_at "rd"
            refine ⟨x.1, rfl, ⟨_, SqL.of hx4⟩, fun D hD => ?_⟩
            refine lc_it (walk_list (xs := x.2.map V.int)) (fun j H' => ∃ zs : List Int, H' D = some (.lst (zs.map V.int)) ∧ zs.length ≤ j ∧ (∀ z ∈ zs, 0 ≤ z ∧ z < 8) ∧ Same H3 H') ⟨[], upd_same, Nat.le_refl _, fun z hz => (nomatch hz), same_upd hD⟩ (fun j H' _ p => by obtain ⟨_, _, _, _, p⟩ := p; exact SqL.of (p _ _ hx4)) ?_ ?_
            · rintro j y Hd He hj ⟨zs, hzs, lz, bz, sd⟩ ⟨rfl, hy⟩
              rw [List.getElem?_map] at hy
              obtain ⟨z, hz, rfl⟩ := Option.map_eq_some_iff.mp hy
              have hj' : j < 100 := by rw [List.length_map] at hj; omega
              walk_at "rd"
              refine ⟨rfl, ?_⟩
              walk_at "rd"
              refine rd_ifIn (fun hq => ?_) (fun hq => ?_)
              · walk_at "rd"
                exact ⟨zs, hzs, by omega, bz, sd⟩
              · walk_at "rd"
                refine ⟨_, hzs, small1000 (by rw [List.length_map]; omega), zs ++ [z], by rw [upd_same, List.map_append]; rfl, by rw [List.length_append]; show zs.length + 1 ≤ j + 1; omega, fun u hu => ?_, fun c o e => by rw [upd_ne (ne_of_none e hD)]; exact sd _ _ e⟩
                rcases List.mem_append.mp hu with q | q
                · exact bz u q
                · rw [List.mem_singleton.mp q]
                  exact xr.2.2.2.2.2 z (List.mem_of_getElem? hz)
            · rintro Hd ⟨zs, hzs, lz, bz, sd⟩
              rw [List.length_map] at lz
              have R3 := R2.same sd
              walk_at "rd"
              refine rd_setL (j := kk.toNat) R3.l (by rw [List.length_map, lb]; exact ixN_nat (Int.toNat_of_nonneg a1).symm (by omega)) ?_
              exact ⟨⟨_, _, _, _, rfl⟩, ⟨_, R3.set kk.toNat hzs (Ne.symm (ne_of_none R2.l hD)) (T0.net hD) (T0.neg hD) (by omega) bz, by rw [List.length_set]; exact lb⟩, ((T0.same sd).put R3.lt R3.lg).mono (by omega)⟩
          · walk_at "rd"
            refine rd_ixL R2.l hx3' ?_
            walk_at "rd"
            intro p1 hp1
            have s1 := same_upd (o := .lst [.int rr]) hp1
            have e1 : upd H3 p1 (.lst [.int rr]) p1 = some (.lst ([rr].map V.int)) := upd_same
            generalize upd H3 p1 (.lst [.int rr]) = H4 at s1 e1
            walk_at "rd"
            refine ⟨x.1, p1, _, _, rfl, rfl, s1 _ _ hx4, e1, Nat.le_of_lt (small1000 (by rw [List.length_map, List.length_map]; show x.2.length + 1 ≤ 1000; omega)), fun p3 hp3 => ?_⟩
            rw [← List.map_append]
            have s3 := same_upd (o := .lst ((x.2 ++ [rr]).map V.int)) hp3
            have e3 : upd H4 p3 (.lst ((x.2 ++ [rr]).map V.int)) p3 = some (.lst ((x.2 ++ [rr]).map V.int)) := upd_same
            have n3 : p3 ≠ L ∧ p3 ≠ t ∧ p3 ≠ g := ⟨Ne.symm (ne_of_none (s1 _ _ R2.l) hp3), (T0.same s1).net hp3, (T0.same s1).neg hp3⟩
            generalize upd H4 p3 (.lst ((x.2 ++ [rr]).map V.int)) = H5 at s3 e3
            have R3 := R2.same (s1.trans s3)
            have T3 := T0.same (s1.trans s3)
            walk_at "rd"
            refine rd_setL (j := kk.toNat) R3.l (by rw [List.length_map, lb]; exact ixN_nat (Int.toNat_of_nonneg a1).symm (by omega)) ?_
            refine ⟨⟨_, _, _, _, rfl⟩, ⟨_, R3.set kk.toNat e3 n3.1 n3.2.1 n3.2.2 (by rw [List.length_append]; show x.2.length + 1 ≤ _; omega) (fun z hz => ?_), by rw [List.length_set]; exact lb⟩, (T3.put R3.lt R3.lg).mono (by omega)⟩
            rcases List.mem_append.mp hz with q | q
            · exact xr.2.2.2.2.2 z q
            · rw [List.mem_singleton.mp q]
              exact ⟨a2, b2⟩
        · rintro σ1 Hb ⟨⟨c8, c9, c10, c11, rfl⟩, ⟨rows, Rb, lb⟩, Tb⟩
          walk_at "rd"
          refine use_drawK Tb (by omega) (by decide) (by decide) fun rr H1 a1 b1 T1 k1 => ?_
          have R1 := Rb.kp k1
          walk_at "rd"
          refine rd_ifI (fun hz => ?_) (fun hz => ?_)
          · walk_at "rd"
            refine ⟨L, rfl, ⟨_, SqL.of R1.l⟩, fun D hD => ?_⟩
            refine lc_it (walk_list (xs := rows.map fun r => V.ref r.1)) (fun j H' => (∃ rows2 : List (Addr × List Int), LiR H' t g D 60 rows2 ∧ rows2.length = j) ∧ LiR H' t g L (32 + sh.toNat) rows ∧ (∀ x ∈ rows, x.1 ≠ D) ∧ Sack H' t g (n + 20 + 2 * sh.toNat + 1)) ⟨⟨[], ⟨upd_same, T1.net hD, T1.neg hD, fun x hx => (nomatch hx)⟩, rfl⟩, R1.same (same_upd hD), fun x hx => ne_of_none (R1.r x hx).1 hD, T1.new hD⟩ (fun j H' _ p => SqL.of p.2.1.l) ?_ ?_
            · rintro j y Hd He hj ⟨⟨rows2, Q2, l2⟩, Q1, nD, TQ⟩ ⟨rfl, hy⟩
              rw [List.getElem?_map] at hy
              obtain ⟨x, hx, rfl⟩ := Option.map_eq_some_iff.mp hy
              have hxm := List.mem_of_getElem? hx
              have xr := Q1.r x hxm
              have hj' : j < 4 := by rw [List.length_map, lb] at hj; exact hj
              walk_at "rd"
              refine ⟨rfl, ?_⟩
              walk_at "rd"
              refine ⟨_, rfl, x.1, _, rfl, SqL.of xr.1, fun p1 hp1 => ?_⟩
              rw [← List.map_reverse]
              have s1 := same_upd (o := .lst (x.2.reverse.map V.int)) hp1
              have e1 : upd He p1 (.lst (x.2.reverse.map V.int)) p1 = some (.lst (x.2.reverse.map V.int)) := upd_same
              generalize upd He p1 (.lst (x.2.reverse.map V.int)) = H5 at s1 e1
              walk_at "rd"
              refine ⟨1, rfl, x.1, _, rfl, SqL.of (s1 _ _ xr.1), fun p2 hp2 => ?_⟩
              rw [show cutV (x.2.map V.int) none (some 1) = (x.2.take 1).map V.int from (cut_hi _ 1).trans (List.map_take ..).symm]
              have s2 := same_upd (o := .lst ((x.2.take 1).map V.int)) hp2
              have e2 : upd H5 p2 (.lst ((x.2.take 1).map V.int)) p2 = some (.lst ((x.2.take 1).map V.int)) := upd_same
              generalize upd H5 p2 (.lst ((x.2.take 1).map V.int)) = H6 at s2 e2
              have lt1 : (x.2.take 1).length ≤ 1 := by rw [List.length_take]; omega
              have lx := xr.2.2.2.2.1
              refine ⟨p1, p2, _, _, rfl, rfl, s2 _ _ e1, e2, Nat.le_of_lt (small1000 (by rw [List.length_map, List.length_map, List.length_reverse]; omega)), fun p3 hp3 => ?_⟩
              rw [← List.map_append]
              have s3 := same_upd (o := .lst ((x.2.reverse ++ x.2.take 1).map V.int)) hp3
              have e3 : upd H6 p3 (.lst ((x.2.reverse ++ x.2.take 1).map V.int)) p3 = some (.lst ((x.2.reverse ++ x.2.take 1).map V.int)) := upd_same
              have s12 := s1.trans s2
              have n3 : p3 ≠ D ∧ p3 ≠ t ∧ p3 ≠ g := ⟨Ne.symm (ne_of_none (s12 _ _ Q2.l) hp3), (TQ.same s12).net hp3, (TQ.same s12).neg hp3⟩
              generalize upd H6 p3 (.lst ((x.2.reverse ++ x.2.take 1).map V.int)) = H7 at s3 e3
              have s13 := s12.trans s3
              have W2 := Q2.same s13
              have W1 := Q1.same s13
              have nLD : L ≠ D := ne_of_none R1.l hD
              refine ⟨_, W2.l, small1000 (by rw [List.length_map, l2]; omega), ⟨rows2 ++ [(p3, x.2.reverse ++ x.2.take 1)], ⟨by rw [upd_same, List.map_append]; rfl, W2.lt, W2.lg, fun u hu => ?_⟩, by rw [List.length_append, l2]; rfl⟩, ⟨by rw [upd_ne nLD]; exact W1.l, W1.lt, W1.lg, fun u hu => by rw [upd_ne (nD u hu)]; exact W1.r u hu⟩, nD, (TQ.same s13).put W2.lt W2.lg⟩
              rcases List.mem_append.mp hu with q | q
              · obtain ⟨c1, c2, c3⟩ := W2.r u q
                exact ⟨by rw [upd_ne c2]; exact c1, c2, c3⟩
              · rw [List.mem_singleton.mp q]
                refine ⟨by rw [upd_ne n3.1]; exact e3, n3.1, n3.2.1, n3.2.2, by show (x.2.reverse ++ x.2.take 1).length ≤ 60; rw [List.length_append, List.length_reverse]; omega, fun z hz => ?_⟩
                rcases List.mem_append.mp hz with q | q
                · exact xr.2.2.2.2.2 z (List.mem_reverse.mp q)
                · exact xr.2.2.2.2.2 z (List.mem_of_mem_take q)
            · rintro Hd ⟨⟨rows2, Q2, l2⟩, Q1, nD, TQ⟩
              walk_at "rd"
              obtain ⟨a, b, c, d, as, bs, cs, ds, h1, h2⟩ := Q2.li4 (by rw [l2, List.length_map, lb])
              exact k D a b c d as bs cs ds _ h1 h2
          · walk_at "rd"
            obtain ⟨a, b, c, d, as, bs, cs, ds, h1, h2⟩ := (R1.mono (m := 60) (by omega)).li4 lb
            exact k L a b c d as bs cs ds _ h1 h2

end
end Rg

namespace Rg
open PySem PySem.Spec L2
local macro_rules | `(tactic| walk_at "rd1") => `(tactic| first
  | with_reducible refine rd_seq ?_
  | with_reducible refine rd_asg ?_
  | ((with_reducible show tVar _ _ _ _); refine rd_var rfl ?_)
  | with_reducible refine rd_c ?_
  | with_reducible refine rd_op ?_
  | with_reducible refine rd_I0 ?_
  | with_reducible refine rd_name ?_
  | with_reducible refine rd_ret ?_
  | with_reducible refine rd_ifs ?_
  | with_reducible refine rd_test ?_
  | with_reducible refine rd_tB ?_
  | with_reducible refine rd_bl ?_
  | with_reducible refine rd_drop ?_
  | with_reducible refine rd_nil ?_
  | with_reducible refine rd_cons ?_
  | with_reducible refine rd_call ?_
  | with_reducible refine rd_cb ?_
  | with_reducible refine rd_tup ?_
  | with_reducible refine rd_lst ?_
  | with_reducible refine rd_and ?_
  | with_reducible refine rd_or ?_
  | with_reducible refine rd_not ?_
  | with_reducible refine rd_andV ?_
  | with_reducible refine rd_orV ?_
  | with_reducible refine rd_notV ?_
  | with_reducible refine rd_chain ?_
  | with_reducible refine rd_un ?_
  | with_reducible refine rd_isN ?_
  | with_reducible refine rd_bm ?_
  | with_reducible refine rd_bm0 ?_
  | with_reducible refine rd_gsub ?_
  | with_reducible refine rd_sl ?_
  | with_reducible refine rd_gt ?_
  | with_reducible refine rd_yes ?_
  | with_reducible refine rd_gcons ?_
  | with_reducible refine rd_gnil ?_
  | with_reducible refine rd_part ?_
  | with_reducible refine rd_nopart ?_
  | ((with_reducible show gTup _ _ _ _ _ _ _); refine rd_gtup (by first | assumption | exact upd_same) rfl ?_)
  | ((with_reducible show gLst _ _ _ _ _ _ _); refine rd_glst (by first | assumption | exact upd_same) rfl ?_)
  | ((with_reducible show rIsi _ _ _ _); first | refine rd_isi (b := true) (.ty _) (.base (by first | exact .int _ | exact .str _ | exact .bl _ | exact .non | exact .tup (by assumption) | exact .lst (by assumption))) (kit_ty (by decide +kernel)) ?_ | refine rd_isi (b := false) (.ty _) (.base (by first | exact .int _ | exact .str _ | exact .bl _ | exact .non | exact .tup (by assumption) | exact .lst (by assumption))) (kit_ty (by decide +kernel)) ?_)
  | with_reducible refine rd_fld ?_
  | with_reducible refine rd_sfld ?_
  | with_reducible refine rd_meth ?_
  | with_reducible refine rd_make ?_
  | with_reducible refine rd_makeK ?_
  | with_reducible refine rd_U ?_
  | with_reducible refine rd_makeKS ?_
  | with_reducible refine rd_callN ?_
  | with_reducible refine rd_rs ?_
  | with_reducible refine rd_rf ?_
  | with_reducible refine rd_star ?_
  | with_reducible refine rd_callS ?_
  | with_reducible refine rd_for ?_
  | with_reducible refine rd_lc ?_
  | with_reducible refine rd_ilist ?_
  | with_reducible refine rd_itup ?_
  | with_reducible refine rd_irng ?_
  | with_reducible refine rd_izipS ?_
  | with_reducible refine rd_ienum ?_
  | with_reducible refine rd_ienT ?_
  | with_reducible refine rd_next ?_
  | with_reducible refine rd_eq rfl ?_
  | with_reducible refine rd_ne rfl ?_
  | with_reducible refine iteT ?_
  | with_reducible refine iteF ?_
  | with_reducible refine rd_ifnT ?_
  | with_reducible refine rd_ifnF ?_
  | ((with_reducible show rI (fun _ j => (0 : Int) < j) _ _ _ _ _); refine rd_mod (by omega) ?_)
  | with_reducible refine rd_new rfl ?_
  | ((with_reducible show rIxL _ _ (V.int 0) _ _); refine rd_ixL0 (by first | assumption | exact upd_same) ?_)
  | ((with_reducible show rIxL _ _ _ _ _); refine rd_ixL (by first | assumption | exact upd_same) rfl ?_)
  | ((with_reducible show rSetL _ _ _ _ _); refine rd_setL (by first | assumption | exact upd_same) rfl ?_)
  | ((with_reducible show rI CMul _ _ _ _ _); refine rd_mul (by first | exact Or.inl ⟨by omega, by omega⟩ | exact Or.inr ⟨by omega, by omega⟩) ?_)
  | ((with_reducible show tyV _ "list" _ _ ∧ _); refine rd_tyL (by first | assumption | exact upd_same) ?_)
  | ((with_reducible show rIxT _ _ (V.int 0) _ _); refine rd_ixT0 (by first | assumption | exact upd_same) ?_)
  | ((with_reducible show rIxT _ _ _ _ _); refine rd_ixT (by first | assumption | exact upd_same) rfl ?_))
local macro_rules | `(tactic| walk_at "rdn1") => `(tactic| first
  | with_reducible refine rd_seq ?_
  | with_reducible refine rd_asg ?_
  | ((with_reducible show tVar _ _ _ _); refine rd_var rfl ?_)
  | with_reducible refine rd_c ?_
  | with_reducible refine rd_op ?_
  | with_reducible refine rd_I0 ?_
  | with_reducible refine rd_name ?_
  | with_reducible refine rd_ret ?_
  | with_reducible refine rd_ifs ?_
  | with_reducible refine rd_test ?_
  | with_reducible refine rd_tB ?_
  | with_reducible refine rd_bl ?_
  | with_reducible refine rd_drop ?_
  | with_reducible refine rd_nil ?_
  | with_reducible refine rd_cons ?_
  | with_reducible refine rd_call ?_
  | with_reducible refine rd_cb ?_
  | with_reducible refine rd_tup ?_
  | with_reducible refine rd_lst ?_
  | with_reducible refine rd_and ?_
  | with_reducible refine rd_or ?_
  | with_reducible refine rd_not ?_
  | with_reducible refine rd_notV ?_
  | with_reducible refine rd_chain ?_
  | with_reducible refine rd_un ?_
  | with_reducible refine rd_isN ?_
  | with_reducible refine rd_bm ?_
  | with_reducible refine rd_bm0 ?_
  | with_reducible refine rd_gsub ?_
  | with_reducible refine rd_sl ?_
  | with_reducible refine rd_gt ?_
  | with_reducible refine rd_yes ?_
  | with_reducible refine rd_gcons ?_
  | with_reducible refine rd_gnil ?_
  | with_reducible refine rd_part ?_
  | with_reducible refine rd_nopart ?_
  | ((with_reducible show gTup _ _ _ _ _ _ _); refine rd_gtup (by first | assumption | exact upd_same) rfl ?_)
  | ((with_reducible show gLst _ _ _ _ _ _ _); refine rd_glst (by first | assumption | exact upd_same) rfl ?_)
  | ((with_reducible show rIsi _ _ _ _); first | refine rd_isi (b := true) (.ty _) (.base (by first | exact .int _ | exact .str _ | exact .bl _ | exact .non | exact .tup (by assumption) | exact .lst (by assumption))) (kit_ty (by decide +kernel)) ?_ | refine rd_isi (b := false) (.ty _) (.base (by first | exact .int _ | exact .str _ | exact .bl _ | exact .non | exact .tup (by assumption) | exact .lst (by assumption))) (kit_ty (by decide +kernel)) ?_)
  | with_reducible refine rd_fld ?_
  | with_reducible refine rd_sfld ?_
  | with_reducible refine rd_meth ?_
  | with_reducible refine rd_make ?_
  | with_reducible refine rd_makeK ?_
  | with_reducible refine rd_U ?_
  | with_reducible refine rd_makeKS ?_
  | with_reducible refine rd_callN ?_
  | with_reducible refine rd_rs ?_
  | with_reducible refine rd_rf ?_
  | with_reducible refine rd_star ?_
  | with_reducible refine rd_callS ?_
  | with_reducible refine rd_for ?_
  | with_reducible refine rd_lc ?_
  | with_reducible refine rd_ilist ?_
  | with_reducible refine rd_itup ?_
  | with_reducible refine rd_irng ?_
  | with_reducible refine rd_izipS ?_
  | with_reducible refine rd_ienum ?_
  | with_reducible refine rd_ienT ?_
  | with_reducible refine rd_next ?_
  | with_reducible refine rd_eq rfl ?_
  | with_reducible refine rd_ne rfl ?_
  | with_reducible refine iteT ?_
  | with_reducible refine iteF ?_
  | with_reducible refine rd_ifnT ?_
  | with_reducible refine rd_ifnF ?_
  | ((with_reducible show rI (fun _ j => (0 : Int) < j) _ _ _ _ _); refine rd_mod (by omega) ?_)
  | with_reducible refine rd_new rfl ?_
  | ((with_reducible show rIxL _ _ (V.int 0) _ _); refine rd_ixL0 (by first | assumption | exact upd_same) ?_)
  | ((with_reducible show rIxL _ _ _ _ _); refine rd_ixL (by first | assumption | exact upd_same) rfl ?_)
  | ((with_reducible show rSetL _ _ _ _ _); refine rd_setL (by first | assumption | exact upd_same) rfl ?_)
  | ((with_reducible show rI CMul _ _ _ _ _); refine rd_mul (by first | exact Or.inl ⟨by omega, by omega⟩ | exact Or.inr ⟨by omega, by omega⟩) ?_)
  | ((with_reducible show tyV _ "list" _ _ ∧ _); refine rd_tyL (by first | assumption | exact upd_same) ?_)
  | ((with_reducible show rIxT _ _ (V.int 0) _ _); refine rd_ixT0 (by first | assumption | exact upd_same) ?_)
  | ((with_reducible show rIxT _ _ _ _ _); refine rd_ixT (by first | assumption | exact upd_same) rfl ?_))
local macro_rules | `(tactic| walk_at "rd") => `(tactic| (repeat (first | walk_at "rd1" | dsimp only)))
local macro_rules | `(tactic| walk_at "rds") => `(tactic| (dsimp only [cxOf, Cx.nox, Cx.wish, Cx.blk, L2.start]; walk_at "rd"))
local macro_rules | `(tactic| walk_at "rdn") => `(tactic| (repeat (first | walk_at "rdn1" | dsimp only)))
section
variable {P : Program} {w : World} {K : PySem.W.Frag} {mg : Str → Option Value} {base : Heap}

/-! tuple.count of flat things (ints, texts, truths) -/
theorem countP_eqU {z : V} : ∀ {ys : List V} {us : List Value}, Vals ys us → ys.all flatV = true → us.countP (eqU z) = ys.countP fun y => eqV y z
  | [], _, h, _ => by
    cases h
    rfl
  | y :: ys, us, h, f => by
    cases h with
    | cons r t =>
      rw [List.all_cons, Bool.and_eq_true] at f
      rw [List.countP_cons, List.countP_cons, countP_eqU t f.2, eqU_of r f.1]
def rCntT (K : PySem.W.Frag) : V → List V → Hp → VK → Prop := fun x xs H Q => ∃ (p : Addr) (ys : List V) (z : V), x = .ref p ∧ xs = [z] ∧ SqT K H p ys ∧ flatV z = true ∧ ys.all flatV = true ∧ Q (.int ((ys.countP fun y => eqV y z : Nat) : Int)) H
theorem mt_tcount {X : Cx} : MtR X "tuple.count" (rCntT X.K) := by
  intro pins s σ H x xs v us Q I rx rxs h
  obtain ⟨p, ys, z, rfl, rfl, hT, fz, fy, q⟩ := h
  cases rx
  obtain ⟨u, rfl, ru⟩ := rxs.one
  obtain ⟨its, rv, ⟨⟨cls, dd, data, sl⟩, ho, hc, n, hd⟩, hlen⟩ := I.tuple hT
  simp only at hc hd
  subst hc hd
  refine call_meets PySem.F.slot_tuple_count ⟨_, ho, rfl⟩ PySem.F.entry_tuple_count (PySem.F.args_tuple_count_2 _ _)
    (SeqAt.tuple_countAt p its.toArray n dd sl u (eqU z)) ⟨ho, fun y hy => mem_eqAt ru fz rv fy y (by simpa using hy), ?_⟩
  have ec : its.toArray.toList.countP (eqU z) = ys.countP fun y => eqV y z := countP_eqU rv fy
  refine ⟨.int ((ys.countP fun y => eqV y z : Nat) : Int), H, I.tok _, ⟨s.toks, ?_⟩, q⟩
  show Value.int ((its.toArray.toList.countP (eqU z) : Nat) : Int) s.toks = Value.int _ s.toks
  rw [ec]

end
end Rg

namespace Rg
open PySem PySem.Spec L2
local macro_rules | `(tactic| walk_at "rd1") => `(tactic| first
  | with_reducible refine rd_seq ?_
  | with_reducible refine rd_asg ?_
  | ((with_reducible show tVar _ _ _ _); refine rd_var rfl ?_)
  | with_reducible refine rd_c ?_
  | with_reducible refine rd_op ?_
  | with_reducible refine rd_I0 ?_
  | with_reducible refine rd_name ?_
  | with_reducible refine rd_ret ?_
  | with_reducible refine rd_ifs ?_
  | with_reducible refine rd_test ?_
  | with_reducible refine rd_tB ?_
  | with_reducible refine rd_bl ?_
  | with_reducible refine rd_drop ?_
  | with_reducible refine rd_nil ?_
  | with_reducible refine rd_cons ?_
  | with_reducible refine rd_call ?_
  | with_reducible refine rd_cb ?_
  | with_reducible refine rd_tup ?_
  | with_reducible refine rd_lst ?_
  | with_reducible refine rd_and ?_
  | with_reducible refine rd_or ?_
  | with_reducible refine rd_not ?_
  | with_reducible refine rd_andV ?_
  | with_reducible refine rd_orV ?_
  | with_reducible refine rd_notV ?_
  | with_reducible refine rd_chain ?_
  | with_reducible refine rd_un ?_
  | with_reducible refine rd_isN ?_
  | with_reducible refine rd_bm ?_
  | with_reducible refine rd_bm0 ?_
  | with_reducible refine rd_gsub ?_
  | with_reducible refine rd_sl ?_
  | with_reducible refine rd_gt ?_
  | with_reducible refine rd_yes ?_
  | with_reducible refine rd_gcons ?_
  | with_reducible refine rd_gnil ?_
  | with_reducible refine rd_part ?_
  | with_reducible refine rd_nopart ?_
  | ((with_reducible show gTup _ _ _ _ _ _ _); refine rd_gtup (by first | assumption | exact upd_same) rfl ?_)
  | ((with_reducible show gLst _ _ _ _ _ _ _); refine rd_glst (by first | assumption | exact upd_same) rfl ?_)
  | ((with_reducible show rIsi _ _ _ _); first | refine rd_isi (b := true) (.ty _) (.base (by first | exact .int _ | exact .str _ | exact .bl _ | exact .non | exact .tup (by assumption) | exact .lst (by assumption))) (kit_ty (by decide +kernel)) ?_ | refine rd_isi (b := false) (.ty _) (.base (by first | exact .int _ | exact .str _ | exact .bl _ | exact .non | exact .tup (by assumption) | exact .lst (by assumption))) (kit_ty (by decide +kernel)) ?_)
  | with_reducible refine rd_fld ?_
  | with_reducible refine rd_sfld ?_
  | with_reducible refine rd_meth ?_
  | with_reducible refine rd_make ?_
  | with_reducible refine rd_makeK ?_
  | with_reducible refine rd_U ?_
  | with_reducible refine rd_makeKS ?_
  | with_reducible refine rd_callN ?_
  | with_reducible refine rd_rs ?_
  | with_reducible refine rd_rf ?_
  | with_reducible refine rd_star ?_
  | with_reducible refine rd_callS ?_
  | with_reducible refine rd_for ?_
  | with_reducible refine rd_lc ?_
  | with_reducible refine rd_ilist ?_
  | with_reducible refine rd_itup ?_
  | with_reducible refine rd_irng ?_
  | with_reducible refine rd_izipS ?_
  | with_reducible refine rd_ienum ?_
  | with_reducible refine rd_ienT ?_
  | with_reducible refine rd_next ?_
  | with_reducible refine rd_eq rfl ?_
  | with_reducible refine rd_ne rfl ?_
  | with_reducible refine iteT ?_
  | with_reducible refine iteF ?_
  | with_reducible refine rd_ifnT ?_
  | with_reducible refine rd_ifnF ?_
  | ((with_reducible show rI (fun _ j => (0 : Int) < j) _ _ _ _ _); refine rd_mod (by omega) ?_)
  | with_reducible refine rd_new rfl ?_
  | ((with_reducible show rIxL _ _ (V.int 0) _ _); refine rd_ixL0 (by first | assumption | exact upd_same) ?_)
  | ((with_reducible show rIxL _ _ _ _ _); refine rd_ixL (by first | assumption | exact upd_same) rfl ?_)
  | ((with_reducible show rSetL _ _ _ _ _); refine rd_setL (by first | assumption | exact upd_same) rfl ?_)
  | ((with_reducible show rI CMul _ _ _ _ _); refine rd_mul (by first | exact Or.inl ⟨by omega, by omega⟩ | exact Or.inr ⟨by omega, by omega⟩) ?_)
  | ((with_reducible show tyV _ "list" _ _ ∧ _); refine rd_tyL (by first | assumption | exact upd_same) ?_)
  | ((with_reducible show rIxT _ _ (V.int 0) _ _); refine rd_ixT0 (by first | assumption | exact upd_same) ?_)
  | ((with_reducible show rIxT _ _ _ _ _); refine rd_ixT (by first | assumption | exact upd_same) rfl ?_))
local macro_rules | `(tactic| walk_at "rdn1") => `(tactic| first
  | with_reducible refine rd_seq ?_
  | with_reducible refine rd_asg ?_
  | ((with_reducible show tVar _ _ _ _); refine rd_var rfl ?_)
  | with_reducible refine rd_c ?_
  | with_reducible refine rd_op ?_
  | with_reducible refine rd_I0 ?_
  | with_reducible refine rd_name ?_
  | with_reducible refine rd_ret ?_
  | with_reducible refine rd_ifs ?_
  | with_reducible refine rd_test ?_
  | with_reducible refine rd_tB ?_
  | with_reducible refine rd_bl ?_
  | with_reducible refine rd_drop ?_
  | with_reducible refine rd_nil ?_
  | with_reducible refine rd_cons ?_
  | with_reducible refine rd_call ?_
  | with_reducible refine rd_cb ?_
  | with_reducible refine rd_tup ?_
  | with_reducible refine rd_lst ?_
  | with_reducible refine rd_and ?_
  | with_reducible refine rd_or ?_
  | with_reducible refine rd_not ?_
  | with_reducible refine rd_notV ?_
  | with_reducible refine rd_chain ?_
  | with_reducible refine rd_un ?_
  | with_reducible refine rd_isN ?_
  | with_reducible refine rd_bm ?_
  | with_reducible refine rd_bm0 ?_
  | with_reducible refine rd_gsub ?_
  | with_reducible refine rd_sl ?_
  | with_reducible refine rd_gt ?_
  | with_reducible refine rd_yes ?_
  | with_reducible refine rd_gcons ?_
  | with_reducible refine rd_gnil ?_
  | with_reducible refine rd_part ?_
  | with_reducible refine rd_nopart ?_
  | ((with_reducible show gTup _ _ _ _ _ _ _); refine rd_gtup (by first | assumption | exact upd_same) rfl ?_)
  | ((with_reducible show gLst _ _ _ _ _ _ _); refine rd_glst (by first | assumption | exact upd_same) rfl ?_)
  | ((with_reducible show rIsi _ _ _ _); first | refine rd_isi (b := true) (.ty _) (.base (by first | exact .int _ | exact .str _ | exact .bl _ | exact .non | exact .tup (by assumption) | exact .lst (by assumption))) (kit_ty (by decide +kernel)) ?_ | refine rd_isi (b := false) (.ty _) (.base (by first | exact .int _ | exact .str _ | exact .bl _ | exact .non | exact .tup (by assumption) | exact .lst (by assumption))) (kit_ty (by decide +kernel)) ?_)
  | with_reducible refine rd_fld ?_
  | with_reducible refine rd_sfld ?_
  | with_reducible refine rd_meth ?_
  | with_reducible refine rd_make ?_
  | with_reducible refine rd_makeK ?_
  | with_reducible refine rd_U ?_
  | with_reducible refine rd_makeKS ?_
  | with_reducible refine rd_callN ?_
  | with_reducible refine rd_rs ?_
  | with_reducible refine rd_rf ?_
  | with_reducible refine rd_star ?_
  | with_reducible refine rd_callS ?_
  | with_reducible refine rd_for ?_
  | with_reducible refine rd_lc ?_
  | with_reducible refine rd_ilist ?_
  | with_reducible refine rd_itup ?_
  | with_reducible refine rd_irng ?_
  | with_reducible refine rd_izipS ?_
  | with_reducible refine rd_ienum ?_
  | with_reducible refine rd_ienT ?_
  | with_reducible refine rd_next ?_
  | with_reducible refine rd_eq rfl ?_
  | with_reducible refine rd_ne rfl ?_
  | with_reducible refine iteT ?_
  | with_reducible refine iteF ?_
  | with_reducible refine rd_ifnT ?_
  | with_reducible refine rd_ifnF ?_
  | ((with_reducible show rI (fun _ j => (0 : Int) < j) _ _ _ _ _); refine rd_mod (by omega) ?_)
  | with_reducible refine rd_new rfl ?_
  | ((with_reducible show rIxL _ _ (V.int 0) _ _); refine rd_ixL0 (by first | assumption | exact upd_same) ?_)
  | ((with_reducible show rIxL _ _ _ _ _); refine rd_ixL (by first | assumption | exact upd_same) rfl ?_)
  | ((with_reducible show rSetL _ _ _ _ _); refine rd_setL (by first | assumption | exact upd_same) rfl ?_)
  | ((with_reducible show rI CMul _ _ _ _ _); refine rd_mul (by first | exact Or.inl ⟨by omega, by omega⟩ | exact Or.inr ⟨by omega, by omega⟩) ?_)
  | ((with_reducible show tyV _ "list" _ _ ∧ _); refine rd_tyL (by first | assumption | exact upd_same) ?_)
  | ((with_reducible show rIxT _ _ (V.int 0) _ _); refine rd_ixT0 (by first | assumption | exact upd_same) ?_)
  | ((with_reducible show rIxT _ _ _ _ _); refine rd_ixT (by first | assumption | exact upd_same) rfl ?_))
local macro_rules | `(tactic| walk_at "rd") => `(tactic| (repeat (first | walk_at "rd1" | dsimp only)))
local macro_rules | `(tactic| walk_at "rds") => `(tactic| (dsimp only [cxOf, Cx.nox, Cx.wish, Cx.blk, L2.start]; walk_at "rd"))
local macro_rules | `(tactic| walk_at "rdn") => `(tactic| (repeat (first | walk_at "rdn1" | dsimp only)))
section
variable {P : Program} {w : World} {K : PySem.W.Frag} {mg : Str → Option Value} {base : Heap}

/-! tuples whose object is known: it has no dict of its own, so that a method may be called -/
def tTupF (t : TA) : TE := fun σ H Q => t σ H fun xs H1 => xs.length ≤ sizeLine ∧ ∀ (p : Addr) (o : Obj), H1 p = none → o.dict = none → Q (.ref p) (upd H1 p (.frz o (.tup xs)))
theorem pe_tupF {X : Cx} {es : List Expr} {x1 : Nat} {pos : Pos} {t : TA} (h : PA X es t) : PE X (.Tuple es x1 pos) (tTupF t) := by
  refine ⟨fun pins s σ H Q I hq => ?_⟩
  refine wpAny_Tuple_spliced (thn (h.run pos pins s σ H _ I hq) fun us s1 ⟨xs, H1, I1, r, z, q⟩ => ⟨by rw [← r.length]; exact z, ?_⟩)
  have hf : H1 s1.heap.objs.size = none := I1.hok.fresh (Nat.le_refl _)
  refine ⟨.ref s1.heap.objs.size, upd H1 s1.heap.objs.size (.frz { cls := .type "tuple", data := .seq us.toArray } (.tup xs)), I1.laid (t' := s1.toks) (fun b u e => Heap.get?_push_of_some _ e) (Nat.le_refl _) ?_, rfl, q _ _ hf rfl⟩
  exact ⟨Heap.get?_push_size _ rfl, z, us, r, ⟨_, Heap.get?_push_size _ rfl, rfl, _, rfl⟩⟩
theorem rd_tupF {tr : TA} {σ : L2.St} {H : Hp} {Q : VK} (h : tr σ H fun xs H1 => xs.length ≤ sizeLine ∧ ∀ (p : Addr) (o : Obj), H1 p = none → o.dict = none → Q (.ref p) (upd H1 p (.frz o (.tup xs)))) : tTupF tr σ H Q := h
/-- such a tuple -/
def TupF (H : Hp) (p : Addr) (xs : List V) : Prop := ∃ o : Obj, H p = some (.frz o (.tup xs)) ∧ o.dict = none
theorem TupF.same {H H' : Hp} {p : Addr} {xs : List V} (h : TupF H p xs) (s : Same H H') : TupF H' p xs := let ⟨o, a, b⟩ := h; ⟨o, s _ _ a, b⟩
theorem TupF.sq {K : PySem.W.Frag} {H : Hp} {p : Addr} {xs : List V} (h : TupF H p xs) : SqT K H p xs := let ⟨o, a, _⟩ := h; .inl (.inr ⟨o, a⟩)
def tCntF (K : PySem.W.Frag) (to : TE) (t : TA) : TE := fun σ H Q => to σ H fun x H1 => (∃ p xs, x = V.ref p ∧ TupF H1 p xs) ∧ t σ H1 fun xs H2 => rCntT K x xs H2 Q
theorem pe_tcountF {X : Cx} {K : PySem.W.Frag} {o e : Expr} {to : TE} {t : TA} {apos cpos : Pos} (ho : PE X o to) (ha : PA X [e] t) (h : X.K = K := by rfl)
    (hbase : attributeBase o "count" X.env (eval o X.env) = eval o X.env := by rfl)
    (hfew : ((backTo cpos (starEach [e] X.env)).all (fun x => !x.1) && (backToKw cpos (keywordEach [] X.env)).all (fun x => x.1.isSome)
      && decide (([e] : List Expr).length + ([] : List Keyword).length + (if ([] : List Keyword).isEmpty then 0 else 1) < 30)) = true := by rfl)
    (hline : (apos.endLine == cpos.line) = true := by rfl) (hs : starEach [e] X.env = (false, eval e X.env) :: starEach [] X.env := by rfl) (hplain : (backTo cpos (starEach [] X.env)).any (·.1) = false := by rfl) :
    PE X (.Call (.Attribute o "count" apos) [e] [] cpos) (tCntF K to t) := by
  subst h
  refine ⟨fun pins s σ H Q I h => ?_⟩
  refine wpAny_Call_method_late hbase hfew hline rfl (thn (ho.run pins s σ H _ I h) fun v s1 ⟨x, H1, I1, r1, ty, q1⟩ => ?_)
  obtain ⟨p, xs, rfl, ob, hp, hd⟩ := ty
  cases r1
  obtain ⟨hob, _, its, _, ob', hob', hc, _⟩ := I1.hok p _ hp
  rw [hob] at hob'
  cases hob'
  have h1 : s1.TypeIs (.ref p) "tuple" := ⟨ob, hob, hc⟩
  have h2 : ∀ a, Value.ref p = .ref a → ∃ ob, s1.heap.get? a = some ob ∧ ob.dict = none := fun a e => by
    cases e
    exact ⟨ob, hob, hd⟩
  refine ⟨"tuple", "tuple.count", PySem.F.plainAttrs_tuple, PySem.F.slot_tuple_count, PySem.F.type_tuple_count, h1, h2, ?_⟩
  have hA := ha.run cpos pins s1 σ H1 _ I1 q1
  rw [hs] at hA ⊢
  refine Calls.callWith_builtin (by show (false || (backTo cpos (starEach [] X.env)).any (·.1)) = false; rw [hplain] <;> rfl) (Calls.evalArgs_plain ?_)
  exact thn hA fun us s2 ⟨vs, H2, I2, r2, q2⟩ => mt_tcount pins s2 σ H2 (.ref p) vs (.ref p) us Q I2 rfl r2 q2
/-- rows of truths as data -/
def bD (q : List Bool) : PyData := .tuple (q.map .bool)
def gB (s : Sg) : List (List Bool) := (List.range 8).map fun (r : Nat) => [mRead s r, mWrite s r, mRun s r, mCall s r]
/-- rows of truths, each in a tuple that may be asked -/
inductive RwF (H : Hp) : List V → List (List Bool) → Prop
  | nil : RwF H [] []
  | cons {p : Addr} {q : List Bool} {us : List V} {qs : List (List Bool)} : TupF H p (q.map V.bl) → RwF H us qs → RwF H (.ref p :: us) (q :: qs)
theorem RwF.same {H H' : Hp} (s : Same H H') : ∀ {us : List V} {qs : List (List Bool)}, RwF H us qs → RwF H' us qs
  | _, _, .nil => .nil
  | _, _, .cons h t => .cons (h.same s) (RwF.same s t)
theorem RwF.append {H : Hp} : ∀ {us vs : List V} {qs rs : List (List Bool)}, RwF H us qs → RwF H vs rs → RwF H (us ++ vs) (qs ++ rs)
  | _, _, _, _, .nil, h => h
  | _, _, _, _, .cons a t, h => .cons a (RwF.append t h)
theorem RwF.len {H : Hp} : ∀ {us : List V} {qs : List (List Bool)}, RwF H us qs → us.length = qs.length
  | _, _, .nil => rfl
  | _, _, .cons _ t => congrArg Nat.succ (RwF.len t)
theorem RwF.get {H : Hp} : ∀ {us : List V} {qs : List (List Bool)} {i : Nat} {v : V}, RwF H us qs → us[i]? = some v → ∃ p q, v = .ref p ∧ qs[i]? = some q ∧ TupF H p (q.map V.bl)
  | _, _, _, _, .nil, e => by simp at e
  | _, _, 0, _, .cons h _, e => by
    simp at e
    subst e
    exact ⟨_, _, rfl, rfl, h⟩
  | _, _, i + 1, _, .cons _ t, e => by
    obtain ⟨p, q, h1, h2, h3⟩ := RwF.get t (by simpa using e)
    exact ⟨p, q, h1, by simpa using h2, h3⟩
theorem RwF.dp {K : PySem.W.Frag} {H : Hp} : ∀ {us : List V} {qs : List (List Bool)}, RwF H us qs → DpAll K H us (qs.map bD)
  | _, _, .nil => .nil
  | _, _, .cons h t => .cons (.tup h.sq (dp_bls _)) (RwF.dp t)
theorem gB_giv (l : List Int) (ri : Str) : (gB (sgO l ri)).map bD = givD l ri := by
  unfold gB givD
  rw [List.map_map]
  rfl
def spWaysF : Sp := fun vs H Q _ => ∃ (v : V) (x : Sg) (r : Int), vs = [v, .int r] ∧ Rp H v x.d ∧ ∀ (p : Addr) (H' : Hp), TupF H' p ([mRead x r, mWrite x r, mRun x r, mCall x r].map V.bl) → Same H H' → Q (.ref p) H'
theorem ok_waysF {f : Addr} {fd : FuncData} (B : BT mg) (F : Fun K "ways_in" "ways_in" s_ways_in f fd) (hm : mg "ways_in" = some (.ref f))
    (C_may_read : Cal P w K mg base "may_read" 1 ["segment", "ring"] (spMay mRead)) (C_may_write : Cal P w K mg base "may_write" 1 ["segment", "ring"] (spMay mWrite)) (C_may_run : Cal P w K mg base "may_run" 1 ["segment", "ring"] (spMay mRun)) (C_may_call : Cal P w K mg base "may_call" 1 ["segment", "ring"] (spMay mCall)) :
    Cal P w K mg base "ways_in" 2 ["segment", "ring"] spWaysF := by
  refine ⟨f, fd, hm, F.kp, F.binds (ps := ["segment", "ring"]) fun _ _ _ _ _ _ us hl => match us, hl with | [_, _], _ => rfl, ?_⟩
  refine F.ok sc_ways_in (fun vs H Q E h => ?_) (fun cdv A outer s H vs Q E hr h => ?_)
  · obtain ⟨v, x, r, rfl, _⟩ := h
    rfl
  · obtain ⟨y, z, r, rfl, ry, k⟩ := h
    refine ⟨_, (pss_one (ps_ret (pe_tupF (pa_cons (pe_cal C_may_read (hr.mono (by omega)) rfl (pa_cons (pv 0) (pa_cons (pv 1) pa_nil))) (pa_cons (pe_cal C_may_write (hr.mono (by omega)) rfl (pa_cons (pv 0) (pa_cons (pv 1) pa_nil))) (pa_cons (pe_cal C_may_run (hr.mono (by omega)) rfl (pa_cons (pv 0) (pa_cons (pv 1) pa_nil))) (pa_cons (pe_cal C_may_call (hr.mono (by omega)) rfl (pa_cons (pv 0) (pa_cons (pv 1) pa_nil))) pa_nil))))))), ?_⟩
    walk_at "rds"
    refine rd_tupF ?_
    walk_at "rd"
    refine ⟨y, z, r, rfl, ry, fun H4 s4 => ?_⟩
    replace ry := ry.keep (Tk.of s4)
    walk_at "rd"
    refine ⟨y, z, r, rfl, ry, fun H5 s5 => ?_⟩
    replace ry := ry.keep (Tk.of s5)
    walk_at "rd"
    refine ⟨y, z, r, rfl, ry, fun H6 s6 => ?_⟩
    replace ry := ry.keep (Tk.of s6)
    walk_at "rd"
    refine ⟨y, z, r, rfl, ry, fun H7 s7 => ?_⟩
    walk_at "rd"
    intro p o hp hd
    exact k p _ ⟨o, upd_same, hd⟩ ((((s4.trans s5).trans s6).trans s7).trans (same_upd hp))
def spGivenF : Sp := fun vs H Q _ => ∃ (p : Addr) (r1 r2 r3 : Int) (ri : Str), vs = [.ref p, .str ri] ∧ Rp H (.ref p) (triD [r1, r2, r3]) ∧
  ∀ (D : Addr) (us : List V) (H' : Hp), H D = none → H' D = some (.lst us) → RwF H' us (gB (sgO [r1, r2, r3] ri)) → Same H H' → Q (.ref D) H'
theorem ok_givenF {f : Addr} {fd : FuncData} (B : BT mg) (F : Fun K "given_ways" "given_ways" s_given_ways f fd) (hm : mg "given_ways" = some (.ref f)) (G_RINGS : GI mg "RINGS" 8) (C_ways_in : Cal P w K mg base "ways_in" 2 ["segment", "ring"] spWaysF) : Cal P w K mg base "given_ways" 3 ["brackets", "rights"] spGivenF := by
  refine ⟨f, fd, hm, F.kp, F.binds (ps := ["brackets", "rights"]) fun _ _ _ _ _ _ us hl => match us, hl with | [_, _], _ => rfl, ?_⟩
  refine F.ok sc_given_ways (fun vs H Q E h => ?_) (fun cdv A outer s H vs Q E hr h => ?_)
  · obtain ⟨p, r1, r2, r3, ri, rfl, _⟩ := h
    rfl
  · obtain ⟨p, r1, r2, r3, ri, rfl, rp, k⟩ := h
    refine ⟨_, (pss_cons (ps_set (i := 2) sc_given_ways.nd rfl (Or.inr rfl) (pe_tup (pa_cons (pv 0) (pa_cons (pv 1) (pa_cons pe_int (pa_cons (pe_tup pa_nil) (pa_cons (pe_tup pa_nil) pa_nil)))))))
 (pss_one (ps_ret (pe_lc (own := [("ring", 3)]) (g := gName 3) (tt := tYes) rfl sc_given_ways.nd (pi_range1 rfl B.g_range (pa_cons (pe_gi G_RINGS rfl) pa_nil)) (blkOk_by (own := [("ring", 3)]) (N := ["brackets", "rights", "segment", "ring"]) (sc := defScope s_given_ways) (by decide +kernel)) (fun _ _ _ _ _ => (pg_name (i := 3) sc_given_ways.nd rfl (by first | exact Or.inl rfl | exact Or.inr rfl))) (fun _ _ _ _ _ => pts_nil) (fun _ _ _ _ _ => (pe_cal C_ways_in (hr.mono (by omega)) rfl (pa_cons (pv 2) (pa_cons (pv 3) pa_nil)))))))), ?_⟩
    walk_at "rds"
    intro e0 he0
    have s1 := same_upd (o := .tup []) he0
    have t1 : upd H e0 (.tup []) e0 = some (.tup []) := upd_same
    generalize upd H e0 (.tup []) = H1 at s1 t1
    walk_at "rd"
    intro e1 he1
    have s2 := same_upd (o := .tup []) he1
    have t2 : upd H1 e1 (.tup []) e1 = some (.tup []) := upd_same
    generalize upd H1 e1 (.tup []) = H2 at s2 t2
    walk_at "rd"
    intro sg hsg
    have s3 := same_upd (o := .tup [.ref p, .str ri, .int 0, .ref e0, .ref e1]) hsg
    have t3 : upd H2 sg (.tup [.ref p, .str ri, .int 0, .ref e0, .ref e1]) sg = some (.tup [.ref p, .str ri, .int 0, .ref e0, .ref e1]) := upd_same
    generalize upd H2 sg (.tup [.ref p, .str ri, .int 0, .ref e0, .ref e1]) = H3 at s3 t3
    have s13 := (s1.trans s2).trans s3
    have rs : Rp H3 (.ref sg) (sgO [r1, r2, r3] ri).d := .tup t3 (.cons (rp.keep (Tk.of s13)) (.cons (.str _) (.cons (.int _) (.cons (.tup ((s2.trans s3) _ _ t1) .nil) (.cons (.tup (s3 _ _ t2) .nil) .nil)))))
    walk_at "rd"
    refine ⟨8, rfl, by decide, by decide, fun D hD => ?_⟩
    refine lc_it (walk_range (n := 8)) (fun i H' => ∃ us, H' D = some (.lst us) ∧ RwF H' us (((List.range i).map fun (r : Nat) => [mRead (sgO [r1, r2, r3] ri) r, mWrite (sgO [r1, r2, r3] ri) r, mRun (sgO [r1, r2, r3] ri) r, mCall (sgO [r1, r2, r3] ri) r])) ∧ (∀ c o, H3 c = some o → H' c = some o)) ⟨[], upd_same, .nil, same_upd hD⟩ (fun _ _ _ _ => trivial) ?_ ?_
    · rintro i y Ha Hb hi ⟨us, hus, rus, sa⟩ ⟨rfl, rfl⟩
      walk_at "rd"
      refine ⟨rfl, ?_⟩
      walk_at "rd"
      refine ⟨.ref sg, sgO [r1, r2, r3] ri, 0 + (i : Int), rfl, rs.keep (Tk.of sa), fun u Hc ru sc => ?_⟩
      have huc := sc _ _ hus
      have keepF : ∀ {us : List V} {qs : List (List Bool)} {us0 : List V}, RwF Hc us qs → RwF (upd Hc D (.lst us0)) us qs := fun {us qs us0} h => by
        induction h with
        | nil => exact .nil
        | cons a t ih =>
          obtain ⟨o, e, d⟩ := a
          exact .cons ⟨o, by rw [upd_ne (ne_of e huc (fun z => nomatch z))]; exact e, d⟩ ih
      refine ⟨us, huc, small1000 (by rw [rus.len, List.length_map, List.length_range]; omega), us ++ [.ref u], upd_same, ?_, fun c o e => by rw [upd_ne (ne_of_none e hD)]; exact sc _ _ (sa _ _ e)⟩
      rw [List.range_succ, List.map_append]
      refine keepF ((rus.same sc).append (.cons ?_ .nil))
      rw [Int.zero_add] at ru
      exact ru
    · rintro Ha ⟨us, hus, rus, sa⟩
      exact k D us Ha (s13.free hD) hus rus (s13.trans sa)

end
end Rg

namespace Rg
open PySem PySem.Spec L2
local macro_rules | `(tactic| walk_at "rd1") => `(tactic| first
  | with_reducible refine rd_seq ?_
  | with_reducible refine rd_asg ?_
  | ((with_reducible show tVar _ _ _ _); refine rd_var rfl ?_)
  | with_reducible refine rd_c ?_
  | with_reducible refine rd_op ?_
  | with_reducible refine rd_I0 ?_
  | with_reducible refine rd_name ?_
  | with_reducible refine rd_ret ?_
  | with_reducible refine rd_ifs ?_
  | with_reducible refine rd_test ?_
  | with_reducible refine rd_tB ?_
  | with_reducible refine rd_bl ?_
  | with_reducible refine rd_drop ?_
  | with_reducible refine rd_nil ?_
  | with_reducible refine rd_cons ?_
  | with_reducible refine rd_call ?_
  | with_reducible refine rd_cb ?_
  | with_reducible refine rd_tup ?_
  | with_reducible refine rd_lst ?_
  | with_reducible refine rd_and ?_
  | with_reducible refine rd_or ?_
  | with_reducible refine rd_not ?_
  | with_reducible refine rd_andV ?_
  | with_reducible refine rd_orV ?_
  | with_reducible refine rd_notV ?_
  | with_reducible refine rd_chain ?_
  | with_reducible refine rd_un ?_
  | with_reducible refine rd_isN ?_
  | with_reducible refine rd_bm ?_
  | with_reducible refine rd_bm0 ?_
  | with_reducible refine rd_gsub ?_
  | with_reducible refine rd_sl ?_
  | with_reducible refine rd_gt ?_
  | with_reducible refine rd_yes ?_
  | with_reducible refine rd_gcons ?_
  | with_reducible refine rd_gnil ?_
  | with_reducible refine rd_part ?_
  | with_reducible refine rd_nopart ?_
  | ((with_reducible show gTup _ _ _ _ _ _ _); refine rd_gtup (by first | assumption | exact upd_same) rfl ?_)
  | ((with_reducible show gLst _ _ _ _ _ _ _); refine rd_glst (by first | assumption | exact upd_same) rfl ?_)
  | ((with_reducible show rIsi _ _ _ _); first | refine rd_isi (b := true) (.ty _) (.base (by first | exact .int _ | exact .str _ | exact .bl _ | exact .non | exact .tup (by assumption) | exact .lst (by assumption))) (kit_ty (by decide +kernel)) ?_ | refine rd_isi (b := false) (.ty _) (.base (by first | exact .int _ | exact .str _ | exact .bl _ | exact .non | exact .tup (by assumption) | exact .lst (by assumption))) (kit_ty (by decide +kernel)) ?_)
  | with_reducible refine rd_fld ?_
  | with_reducible refine rd_sfld ?_
  | with_reducible refine rd_meth ?_
  | with_reducible refine rd_make ?_
  | with_reducible refine rd_makeK ?_
  | with_reducible refine rd_U ?_
  | with_reducible refine rd_makeKS ?_
  | with_reducible refine rd_callN ?_
  | with_reducible refine rd_rs ?_
  | with_reducible refine rd_rf ?_
  | with_reducible refine rd_star ?_
  | with_reducible refine rd_callS ?_
  | with_reducible refine rd_for ?_
  | with_reducible refine rd_lc ?_
  | with_reducible refine rd_ilist ?_
  | with_reducible refine rd_itup ?_
  | with_reducible refine rd_irng ?_
  | with_reducible refine rd_izipS ?_
  | with_reducible refine rd_ienum ?_
  | with_reducible refine rd_ienT ?_
  | with_reducible refine rd_next ?_
  | with_reducible refine rd_eq rfl ?_
  | with_reducible refine rd_ne rfl ?_
  | with_reducible refine iteT ?_
  | with_reducible refine iteF ?_
  | with_reducible refine rd_ifnT ?_
  | with_reducible refine rd_ifnF ?_
  | ((with_reducible show rI (fun _ j => (0 : Int) < j) _ _ _ _ _); refine rd_mod (by omega) ?_)
  | with_reducible refine rd_new rfl ?_
  | ((with_reducible show rIxL _ _ (V.int 0) _ _); refine rd_ixL0 (by first | assumption | exact upd_same) ?_)
  | ((with_reducible show rIxL _ _ _ _ _); refine rd_ixL (by first | assumption | exact upd_same) rfl ?_)
  | ((with_reducible show rSetL _ _ _ _ _); refine rd_setL (by first | assumption | exact upd_same) rfl ?_)
  | ((with_reducible show rI CMul _ _ _ _ _); refine rd_mul (by first | exact Or.inl ⟨by omega, by omega⟩ | exact Or.inr ⟨by omega, by omega⟩) ?_)
  | ((with_reducible show tyV _ "list" _ _ ∧ _); refine rd_tyL (by first | assumption | exact upd_same) ?_)
  | ((with_reducible show rIxT _ _ (V.int 0) _ _); refine rd_ixT0 (by first | assumption | exact upd_same) ?_)
  | ((with_reducible show rIxT _ _ _ _ _); refine rd_ixT (by first | assumption | exact upd_same) rfl ?_))
local macro_rules | `(tactic| walk_at "rdn1") => `(tactic| first
  | with_reducible refine rd_seq ?_
  | with_reducible refine rd_asg ?_
  | ((with_reducible show tVar _ _ _ _); refine rd_var rfl ?_)
  | with_reducible refine rd_c ?_
  | with_reducible refine rd_op ?_
  | with_reducible refine rd_I0 ?_
  | with_reducible refine rd_name ?_
  | with_reducible refine rd_ret ?_
  | with_reducible refine rd_ifs ?_
  | with_reducible refine rd_test ?_
  | with_reducible refine rd_tB ?_
  | with_reducible refine rd_bl ?_
  | with_reducible refine rd_drop ?_
  | with_reducible refine rd_nil ?_
  | with_reducible refine rd_cons ?_
  | with_reducible refine rd_call ?_
  | with_reducible refine rd_cb ?_
  | with_reducible refine rd_tup ?_
  | with_reducible refine rd_lst ?_
  | with_reducible refine rd_and ?_
  | with_reducible refine rd_or ?_
  | with_reducible refine rd_not ?_
  | with_reducible refine rd_notV ?_
  | with_reducible refine rd_chain ?_
  | with_reducible refine rd_un ?_
  | with_reducible refine rd_isN ?_
  | with_reducible refine rd_bm ?_
  | with_reducible refine rd_bm0 ?_
  | with_reducible refine rd_gsub ?_
  | with_reducible refine rd_sl ?_
  | with_reducible refine rd_gt ?_
  | with_reducible refine rd_yes ?_
  | with_reducible refine rd_gcons ?_
  | with_reducible refine rd_gnil ?_
  | with_reducible refine rd_part ?_
  | with_reducible refine rd_nopart ?_
  | ((with_reducible show gTup _ _ _ _ _ _ _); refine rd_gtup (by first | assumption | exact upd_same) rfl ?_)
  | ((with_reducible show gLst _ _ _ _ _ _ _); refine rd_glst (by first | assumption | exact upd_same) rfl ?_)
  | ((with_reducible show rIsi _ _ _ _); first | refine rd_isi (b := true) (.ty _) (.base (by first | exact .int _ | exact .str _ | exact .bl _ | exact .non | exact .tup (by assumption) | exact .lst (by assumption))) (kit_ty (by decide +kernel)) ?_ | refine rd_isi (b := false) (.ty _) (.base (by first | exact .int _ | exact .str _ | exact .bl _ | exact .non | exact .tup (by assumption) | exact .lst (by assumption))) (kit_ty (by decide +kernel)) ?_)
  | with_reducible refine rd_fld ?_
  | with_reducible refine rd_sfld ?_
  | with_reducible refine rd_meth ?_
  | with_reducible refine rd_make ?_
  | with_reducible refine rd_makeK ?_
  | with_reducible refine rd_U ?_
  | with_reducible refine rd_makeKS ?_
  | with_reducible refine rd_callN ?_
  | with_reducible refine rd_rs ?_
  | with_reducible refine rd_rf ?_
  | with_reducible refine rd_star ?_
  | with_reducible refine rd_callS ?_
  | with_reducible refine rd_for ?_
  | with_reducible refine rd_lc ?_
  | with_reducible refine rd_ilist ?_
  | with_reducible refine rd_itup ?_
  | with_reducible refine rd_irng ?_
  | with_reducible refine rd_izipS ?_
  | with_reducible refine rd_ienum ?_
  | with_reducible refine rd_ienT ?_
  | with_reducible refine rd_next ?_
  | with_reducible refine rd_eq rfl ?_
  | with_reducible refine rd_ne rfl ?_
  | with_reducible refine iteT ?_
  | with_reducible refine iteF ?_
  | with_reducible refine rd_ifnT ?_
  | with_reducible refine rd_ifnF ?_
  | ((with_reducible show rI (fun _ j => (0 : Int) < j) _ _ _ _ _); refine rd_mod (by omega) ?_)
  | with_reducible refine rd_new rfl ?_
  | ((with_reducible show rIxL _ _ (V.int 0) _ _); refine rd_ixL0 (by first | assumption | exact upd_same) ?_)
  | ((with_reducible show rIxL _ _ _ _ _); refine rd_ixL (by first | assumption | exact upd_same) rfl ?_)
  | ((with_reducible show rSetL _ _ _ _ _); refine rd_setL (by first | assumption | exact upd_same) rfl ?_)
  | ((with_reducible show rI CMul _ _ _ _ _); refine rd_mul (by first | exact Or.inl ⟨by omega, by omega⟩ | exact Or.inr ⟨by omega, by omega⟩) ?_)
  | ((with_reducible show tyV _ "list" _ _ ∧ _); refine rd_tyL (by first | assumption | exact upd_same) ?_)
  | ((with_reducible show rIxT _ _ (V.int 0) _ _); refine rd_ixT0 (by first | assumption | exact upd_same) ?_)
  | ((with_reducible show rIxT _ _ _ _ _); refine rd_ixT (by first | assumption | exact upd_same) rfl ?_))
local macro_rules | `(tactic| walk_at "rd") => `(tactic| (repeat (first | walk_at "rd1" | dsimp only)))
local macro_rules | `(tactic| walk_at "rds") => `(tactic| (dsimp only [cxOf, Cx.nox, Cx.wish, Cx.blk, L2.start]; walk_at "rd"))
local macro_rules | `(tactic| walk_at "rdn") => `(tactic| (repeat (first | walk_at "rdn1" | dsimp only)))
section
variable {P : Program} {w : World} {K : PySem.W.Frag} {mg : Str → Option Value} {base : Heap}

theorem pe_lcN2 {X : Cx} {elt tg iter tg1 iter1 : Expr} {ifs ifs1 : List Expr} {scope : Scope} {own : List (Str × Nat)} {vs1 : List Nat} {pos : Pos} {wi wi1 : TI} {g g1 : TG} {tt tt1 : TT} {te : TE} (hc : X.calm = true) (hN : X.N.Nodup) (hi : PI X tg iter wi) (ok : BlkOk X.N X.env.scope scope own) (hv : ∀ i ∈ vs1, i ∈ own.map (·.2))
    (hg : ∀ (s : Shared) (H : Hp) (C : Addr) (cl : List (Str × Addr)) (fp : List Addr), PG (X.blk s H scope (compEnvC scope cl C X.env) fp) tg g) (ht : ∀ (s : Shared) (H : Hp) (C : Addr) (cl : List (Str × Addr)) (fp : List Addr), PTs (X.blk s H scope (compEnvC scope cl C X.env) fp) ifs tt)
    (hi1 : ∀ (s : Shared) (H : Hp) (C : Addr) (cl : List (Str × Addr)) (fp : List Addr), PI (X.blk s H scope (compEnvC scope cl C X.env) fp) tg1 iter1 wi1)
    (hg1 : ∀ (s : Shared) (H : Hp) (C : Addr) (cl : List (Str × Addr)) (fp : List Addr), PG (X.blk s H scope (compEnvC scope cl C X.env) fp) tg1 g1) (ht1 : ∀ (s : Shared) (H : Hp) (C : Addr) (cl : List (Str × Addr)) (fp : List Addr), PTs (X.blk s H scope (compEnvC scope cl C X.env) fp) ifs1 tt1)
    (he : ∀ (s : Shared) (H : Hp) (C : Addr) (cl : List (Str × Addr)) (fp : List Addr), PE (X.blk s H scope (compEnvC scope cl C X.env) fp) elt te) (hs : ∀ x, foldedSetIterable iter X.env x = pure x := by intro _; rfl) (hs1 : ∀ env x, foldedSetIterable iter1 env x = pure x := by intro _ _; rfl) :
    PE X (.ListComp elt [⟨tg, iter, ifs, 0⟩, ⟨tg1, iter1, ifs1, 0⟩] scope pos) (tLcN wi g tt [⟨wi1, g1, tt1, vs1⟩] te (own.map (·.2))) := by
  have := pe_lc2 (pos := pos) hc hN hi ok hv hg ht hi1 hg1 ht1 he hs hs1
  exact this
theorem rd_izipA {ta : TA} {σ : L2.St} {H : Hp} {R : It → Hp → Prop} (h : ta σ H fun vs H1 => ∃ a b xs ys, vs = [.ref a, .ref b] ∧ ((SqL K H1 a xs ∧ SqL K H1 b ys ∧ R (Itz K a b) H1) ∨ (SqT K H1 a xs ∧ SqT K H1 b ys ∧ R (RZ.ItzT K a b) H1))) : RZ.iZipA K ta σ H R := h
theorem walk_zipT {a b : Addr} {xs ys : List V} {n : Nat} (hn : n = min xs.length ys.length) : Walk (RZ.ItzT K a b) n (fun H => SqT K H a xs ∧ SqT K H b ys) (YPair (fun i => xs[i]?) (fun i => ys[i]?)) := by
  subst hn
  refine ⟨fun i _ hi q => ?_, fun _ q => ⟨xs, ys, q.1, q.2, by omega⟩, fun i H v H' _ q y => ?_⟩
  · have h1 : i < xs.length := by omega
    have h2 : i < ys.length := by omega
    exact ⟨xs, ys, xs[i], ys[i], q.1, q.2, by simp [h1], by simp [h2]⟩
  · obtain ⟨T, x, z, h1, h2, h3, h4, h5⟩ := y
    exact ⟨T, x, z, h1, h2, h3, h4 xs q.1, h5 ys q.2⟩
theorem pi_zipAK {X : Cx} {K : PySem.W.Frag} {e e2 : Expr} {ta : TA} {p pos tpos : Pos} {elts : List Expr} {kk : Nat} (hg : Gl X "zip") (hm : X.mg "zip" = none) (ha : PA X [e, e2] ta) (h : X.K = K := by rfl)
    (hs : starEach [e, e2] X.env = (false, eval e X.env) :: starEach [e2] X.env := by rfl) (hpl : (backTo pos (starEach [e2] X.env)).any (·.1) = false := by rfl) :
    PI X (.Tuple elts kk tpos) (.Call (.Name "zip" p) [e, e2] [] pos) (RZ.iZipA K ta) := by
  subst h
  exact RZ.pi_zipA hg hm ha hs hpl
theorem RpAll.bls_inv {H : Hp} : ∀ {q : List Bool} {vs : List V}, RpAll H vs (q.map PyData.bool) → vs = q.map V.bl
  | [], _, h => h.nil_inv
  | n :: ns, _, h => by
    obtain ⟨v, r, rfl, h1, h2⟩ := h.cons_inv
    have := RpAll.bls_inv h2
    subst this
    cases h1
    rfl
def zB (a b : List Bool) : List Bool := (a.zip b).map fun p => p.1 || !p.2
def zBs (as bs : List (List Bool)) : List Bool := (as.zip bs).flatMap fun p => zB p.1 p.2
def spLets : Sp := fun vs H Q _ => ∃ (a b : Addr) (us ws : List V) (as bs : List (List Bool)), vs = [.ref a, .ref b] ∧ H a = some (.lst us) ∧ H b = some (.lst ws) ∧ RwF H us as ∧ RpAll H ws (bs.map bD) ∧ as.length = 8 ∧ bs.length = 8 ∧ (∀ q ∈ as, q.length = 4) ∧ (∀ q ∈ bs, q.length = 4) ∧ ∀ H', Same H H' → Q (.bl ((zBs as bs).all fun x => x)) H'
theorem ok_lets {f : Addr} {fd : FuncData} (B : BT mg) (F : Fun K "lets_all" "lets_all" s_lets_all f fd) (hm : mg "lets_all" = some (.ref f)) : Cal P w K mg base "lets_all" 1 ["given", "wished"] spLets := by
  refine ⟨f, fd, hm, F.kp, F.binds (ps := ["given", "wished"]) fun _ _ _ _ _ _ us hl => match us, hl with | [_, _], _ => rfl, ?_⟩
  refine F.ok sc_lets_all (fun vs H Q E h => ?_) (fun cdv A outer s H vs Q E hr h => ?_)
  · obtain ⟨a, b, us, ws, as, bs, rfl, _⟩ := h
    rfl
  · obtain ⟨a, b, us, ws, as, bs, rfl, ha, hb, rus, rws, la, lb, qa, qb, k⟩ := h
    refine ⟨_, (pss_one (ps_ret (pe_callB (r := rAll K) (cr_all rfl) rfl B.g_all (by decide +kernel) (pa_cons (pe_lcN2 (own := [("ways", 2), ("wishes", 3), ("may", 4), ("wish", 5)]) (vs1 := [4, 5]) (tt := tYes) (tt1 := tYes) (g := gTup K 2 (gCons (gName 2) (gCons (gName 3) (gNil)))) (g1 := gTup K 2 (gCons (gName 4) (gCons (gName 5) (gNil)))) rfl sc_lets_all.nd (pi_zipAK (K := K) rfl B.g_zip (pa_cons (pv 0) (pa_cons (pv 1) pa_nil))) (blkOk_by (own := [("ways", 2), ("wishes", 3), ("may", 4), ("wish", 5)]) (N := ["given", "wished", "ways", "wishes", "may", "wish"]) (sc := defScope s_lets_all) (by decide +kernel)) (by decide) (fun _ _ _ _ _ => (pg_tup (by rfl) (pgs_cons (pg_name (i := 2) sc_lets_all.nd rfl (by first | exact Or.inl rfl | exact Or.inr rfl)) (pgs_cons (pg_name (i := 3) sc_lets_all.nd rfl (by first | exact Or.inl rfl | exact Or.inr rfl)) pgs_nil)))) (fun _ _ _ _ _ => pts_nil) (fun _ _ _ _ _ => (pi_zipAK (K := K) rfl B.g_zip (pa_cons (pv 2) (pa_cons (pv 3) pa_nil)))) (fun _ _ _ _ _ => (pg_tup (by rfl) (pgs_cons (pg_name (i := 4) sc_lets_all.nd rfl (by first | exact Or.inl rfl | exact Or.inr rfl)) (pgs_cons (pg_name (i := 5) sc_lets_all.nd rfl (by first | exact Or.inl rfl | exact Or.inr rfl)) pgs_nil)))) (fun _ _ _ _ _ => pts_nil) (fun _ _ _ _ _ => (pe_or (pv 4) (pe_one (pe_not (pv 5)))))) pa_nil)))), ?_⟩
    walk_at "rds"
    refine rd_lcN ?_
    refine rd_izipA ?_
    walk_at "rd"
    refine ⟨a, b, us, ws, rfl, .inl ⟨SqL.of ha, SqL.of hb, fun D hD => ?_⟩⟩
    have lu : us.length = 8 := by rw [rus.len, la]
    have lw : ws.length = 8 := by rw [rws.length, List.length_map, lb]
    refine inn_it (walk_zip (xs := us) (ys := ws) (n := 8) (by omega)) (fun i H' => H' D = some (.lst ((zBs (as.take i) (bs.take i)).map V.bl)) ∧ Same H H') ⟨upd_same, same_upd hD⟩ (fun i H' _ p => ⟨SqL.of (p.2 _ _ ha), SqL.of (p.2 _ _ hb)⟩) ?_ ?_
    · rintro i y H1 H2 hi ⟨h1, s1⟩ ⟨T', ea, eb, rfl, hT', rfl, hea, heb⟩
      obtain ⟨pa, qa1, rfl, hqa, ra⟩ := rus.get hea
      obtain ⟨d, hd, rb⟩ := rws.get heb
      rw [List.getElem?_map] at hd
      obtain ⟨qb1, hqb, rfl⟩ := Option.map_eq_some_iff.mp hd
      have sT := same_upd (o := .tup [.ref pa, eb]) hT'
      have eT : upd H1 T' (.tup [.ref pa, eb]) T' = some (.tup [.ref pa, eb]) := upd_same
      generalize upd H1 T' (.tup [.ref pa, eb]) = H3 at sT eT
      have s03 := s1.trans sT
      have hpa := ra.same s03
      obtain ⟨pb, vb, rfl, hpb, rvb⟩ := (rb.keep (Tk.of s03)).tup_inv
      have := rvb.bls_inv; subst this
      have l4a := qa _ (List.mem_of_getElem? hqa)
      have l4b := qb _ (List.mem_of_getElem? hqb)
      walk_at "rd"
      refine ⟨rfl, ?_⟩
      walk_at "rd"
      refine rd_inn (rd_izipA ?_)
      walk_at "rd"
      refine ⟨pa, pb, _, _, rfl, .inr ⟨hpa.sq, SqT.of hpb, ?_⟩⟩
      refine inn_it (walk_zipT (xs := qa1.map V.bl) (ys := qb1.map V.bl) (n := 4) (by rw [List.length_map, List.length_map]; omega)) (fun j H' => H' D = some (.lst ((zBs (as.take i) (bs.take i) ++ zB (qa1.take j) (qb1.take j)).map V.bl)) ∧ (∀ c o, H3 c = some o → c ≠ D → H' c = some o) ∧ Same H H') ⟨by rw [List.take_zero, List.take_zero]; exact (sT _ _ h1).trans (by rw [show zB [] [] = [] from rfl, List.append_nil]), fun c o e _ => e, s03⟩ (fun j H' _ p => ⟨(by obtain ⟨o, e0, d0⟩ := hpa; exact TupF.sq ⟨o, p.2.1 _ _ e0 (fun e => by rw [e, sT _ _ h1] at e0; cases e0), d0⟩), SqT.of (p.2.1 _ _ hpb (fun e => by rw [e, sT _ _ h1] at hpb; cases hpb))⟩) ?_ ?_
      · rintro j y2 H4 H5 hj ⟨h4, s4, s04⟩ ⟨T2, ec, ed, rfl, hT2, rfl, hec, hed⟩
        change (qa1.map V.bl)[j]? = some ec at hec
        change (qb1.map V.bl)[j]? = some ed at hed
        rw [List.getElem?_map] at hec hed
        obtain ⟨x1, hx1, rfl⟩ := Option.map_eq_some_iff.mp hec
        obtain ⟨x2, hx2, rfl⟩ := Option.map_eq_some_iff.mp hed
        have sU := same_upd (o := .tup [.bl x1, .bl x2]) hT2
        have eU : upd H4 T2 (.tup [.bl x1, .bl x2]) T2 = some (.tup [.bl x1, .bl x2]) := upd_same
        generalize upd H4 T2 (.tup [.bl x1, .bl x2]) = H6 at sU eU
        have ez : zB (qa1.take (j + 1)) (qb1.take (j + 1)) = zB (qa1.take j) (qb1.take j) ++ [x1 || !x2] := by
          unfold zB
          rw [take_snoc hx1, take_snoc hx2, List.zip_append (by rw [List.length_take, List.length_take]; omega), List.map_append]
          rfl
        have lz : (zBs (as.take i) (bs.take i) ++ zB (qa1.take j) (qb1.take j)).length ≤ 100 := by
          have e1 : (zBs (as.take i) (bs.take i)).length ≤ 4 * i := by
            have : ∀ (l : List (List Bool × List Bool)), (∀ p ∈ l, p.1.length = 4) → (l.flatMap fun p => zB p.1 p.2).length ≤ 4 * l.length := fun l => by
              induction l with
              | nil => intro _; exact Nat.le_refl _
              | cons a l ih =>
                intro h
                rw [List.flatMap_cons, List.length_append, List.length_cons]
                have h1 := ih fun p hp => h p (by simp [hp])
                have h2 : (zB a.1 a.2).length ≤ 4 := by
                  unfold zB
                  rw [List.length_map, List.length_zip, h a (by simp)]
                  omega
                omega
            unfold zBs
            refine Nat.le_trans (this _ fun p hp => qa _ (List.mem_of_mem_take (List.of_mem_zip hp).1)) ?_
            rw [List.length_zip, List.length_take, List.length_take]
            omega
          have e2 : (zB (qa1.take j) (qb1.take j)).length ≤ 4 := by
            unfold zB
            rw [List.length_map, List.length_zip, List.length_take, List.length_take]
            omega
          rw [List.length_append]
          omega
        walk_at "rd"
        refine ⟨rfl, ?_⟩
        walk_at "rd"
        refine rd_inn0 ?_
        refine rd_joinB (H := H6) (x1 || !x2) (fun R hR => ?_) ?_
        · walk_at "rd"
          cases x1 with
          | true =>
            walk_at "rd"
            exact hR
          | false =>
            walk_at "rd"
            exact hR
        · refine ⟨_, sU _ _ h4, small1000 (by rw [List.length_map]; omega), ?_, fun c o e n => by rw [upd_ne n]; exact sU _ _ (s4 _ _ e n), fun c o e => by rw [upd_ne (ne_of_none e hD)]; exact sU _ _ (s04 _ _ e)⟩
          rw [upd_same, ez, ← List.append_assoc, List.map_append (l₂ := [x1 || !x2])]
          rfl
      · rintro H4 ⟨h4, s4, s04⟩
        refine ⟨?_, s04⟩
        rw [h4, take_snoc hqa, take_snoc hqb]
        unfold zBs
        rw [List.zip_append (by rw [List.length_take, List.length_take, la, lb]), List.flatMap_append, List.take_of_length_le (l := qa1) (by omega), List.take_of_length_le (l := qb1) (by omega)]
        simp
    · rintro H1 ⟨h1, s1⟩
      rw [List.take_of_length_le (by omega), List.take_of_length_le (by omega)] at h1
      walk_at "rd"
      refine rd_all (xs := zBs as bs) (f := fun x => x) h1 ?_
      exact k _ s1
def spHow : Sp := fun vs H Q _ => ∃ (a : Addr) (us : List V) (as : List (List Bool)), vs = [.ref a] ∧ H a = some (.lst us) ∧ RwF H us as ∧ as.length = 8 ∧ ∀ H', Same H H' → Q (.int ((as.map fun q => ((q.countP fun b => b : Nat) : Int)).sum)) H'
theorem ok_how {f : Addr} {fd : FuncData} (B : BT mg) (F : Fun K "how_many" "how_many" s_how_many f fd) (hm : mg "how_many" = some (.ref f)) : Cal P w K mg base "how_many" 1 ["given"] spHow := by
  refine ⟨f, fd, hm, F.kp, F.binds (ps := ["given"]) fun _ _ _ _ _ _ us hl => match us, hl with | [_], _ => rfl, ?_⟩
  refine F.ok sc_how_many (fun vs H Q E h => ?_) (fun cdv A outer s H vs Q E hr h => ?_)
  · obtain ⟨a, us, as, rfl, _⟩ := h
    rfl
  · obtain ⟨a, us, as, rfl, ha, rus, la, k⟩ := h
    refine ⟨_, (pss_one (ps_ret (pe_callB (cr_sum rfl) rfl B.g_sum (by decide +kernel) (pa_cons (pe_lc (own := [("ways", 1)]) (g := gName 1) (tt := tYes) rfl sc_how_many.nd (pi_listK (K := K) (pv 0)) (blkOk_by (own := [("ways", 1)]) (N := ["given", "ways"]) (sc := defScope s_how_many) (by decide +kernel)) (fun _ _ _ _ _ => (pg_name (i := 1) sc_how_many.nd rfl (by first | exact Or.inl rfl | exact Or.inr rfl))) (fun _ _ _ _ _ => pts_nil) (fun _ _ _ _ _ => (pe_tcountF (K := K) (pv 1) (pa_cons pe_bl pa_nil)))) pa_nil)))), ?_⟩
    walk_at "rds"
    have lu : us.length = 8 := by rw [rus.len, la]
    refine ⟨a, rfl, ⟨_, SqL.of ha⟩, fun D hD => ?_⟩
    refine lc_it (walk_list (xs := us)) (CompL D H as fun q => V.int ((q.countP fun b => b : Nat) : Int)) (CompL.start hD) (fun i H' _ p => SqL.of (p.2 _ _ ha)) ?_ ?_
    · rintro i y H1 H2 hi pc ⟨rfl, hy⟩
      obtain ⟨p1, q1, rfl, hq, ry⟩ := rus.get hy
      have hp1 := ry.same pc.2
      walk_at "rd"
      refine ⟨rfl, ?_⟩
      walk_at "rd"
      refine ⟨_, rfl, ⟨p1, _, rfl, hp1⟩, ?_⟩
      walk_at "rd"
      refine ⟨p1, _, _, rfl, rfl, hp1.sq, rfl, all_flat q1, ?_⟩
      refine pc.step hD (by omega) hq (Same.refl _) ?_
      rw [List.countP_map]
      congr 3
      funext b
      cases b <;> rfl
    · intro H1 pc
      have hd := pc.end (by omega)
      walk_at "rd"
      refine ⟨D, as.map fun q => ((q.countP fun b => b : Nat) : Int), rfl, SqL.of (by rw [hd, List.map_map]; rfl), ?_⟩
      exact k _ pc.2

end
end Rg

namespace Rg
open PySem PySem.Spec L2
local macro_rules | `(tactic| walk_at "rd1") => `(tactic| first
  | with_reducible refine rd_seq ?_
  | with_reducible refine rd_asg ?_
  | ((with_reducible show tVar _ _ _ _); refine rd_var rfl ?_)
  | with_reducible refine rd_c ?_
  | with_reducible refine rd_op ?_
  | with_reducible refine rd_I0 ?_
  | with_reducible refine rd_name ?_
  | with_reducible refine rd_ret ?_
  | with_reducible refine rd_ifs ?_
  | with_reducible refine rd_test ?_
  | with_reducible refine rd_tB ?_
  | with_reducible refine rd_bl ?_
  | with_reducible refine rd_drop ?_
  | with_reducible refine rd_nil ?_
  | with_reducible refine rd_cons ?_
  | with_reducible refine rd_call ?_
  | with_reducible refine rd_cb ?_
  | with_reducible refine rd_tup ?_
  | with_reducible refine rd_lst ?_
  | with_reducible refine rd_and ?_
  | with_reducible refine rd_or ?_
  | with_reducible refine rd_not ?_
  | with_reducible refine rd_andV ?_
  | with_reducible refine rd_orV ?_
  | with_reducible refine rd_notV ?_
  | with_reducible refine rd_chain ?_
  | with_reducible refine rd_un ?_
  | with_reducible refine rd_isN ?_
  | with_reducible refine rd_bm ?_
  | with_reducible refine rd_bm0 ?_
  | with_reducible refine rd_gsub ?_
  | with_reducible refine rd_sl ?_
  | with_reducible refine rd_gt ?_
  | with_reducible refine rd_yes ?_
  | with_reducible refine rd_gcons ?_
  | with_reducible refine rd_gnil ?_
  | with_reducible refine rd_part ?_
  | with_reducible refine rd_nopart ?_
  | ((with_reducible show gTup _ _ _ _ _ _ _); refine rd_gtup (by first | assumption | exact upd_same) rfl ?_)
  | ((with_reducible show gLst _ _ _ _ _ _ _); refine rd_glst (by first | assumption | exact upd_same) rfl ?_)
  | ((with_reducible show rIsi _ _ _ _); first | refine rd_isi (b := true) (.ty _) (.base (by first | exact .int _ | exact .str _ | exact .bl _ | exact .non | exact .tup (by assumption) | exact .lst (by assumption))) (kit_ty (by decide +kernel)) ?_ | refine rd_isi (b := false) (.ty _) (.base (by first | exact .int _ | exact .str _ | exact .bl _ | exact .non | exact .tup (by assumption) | exact .lst (by assumption))) (kit_ty (by decide +kernel)) ?_)
  | with_reducible refine rd_fld ?_
  | with_reducible refine rd_sfld ?_
  | with_reducible refine rd_meth ?_
  | with_reducible refine rd_make ?_
  | with_reducible refine rd_makeK ?_
  | with_reducible refine rd_U ?_
  | with_reducible refine rd_makeKS ?_
  | with_reducible refine rd_callN ?_
  | with_reducible refine rd_rs ?_
  | with_reducible refine rd_rf ?_
  | with_reducible refine rd_star ?_
  | with_reducible refine rd_callS ?_
  | with_reducible refine rd_for ?_
  | with_reducible refine rd_lc ?_
  | with_reducible refine rd_ilist ?_
  | with_reducible refine rd_itup ?_
  | with_reducible refine rd_irng ?_
  | with_reducible refine rd_izipS ?_
  | with_reducible refine rd_ienum ?_
  | with_reducible refine rd_ienT ?_
  | with_reducible refine rd_next ?_
  | with_reducible refine rd_eq rfl ?_
  | with_reducible refine rd_ne rfl ?_
  | with_reducible refine iteT ?_
  | with_reducible refine iteF ?_
  | with_reducible refine rd_ifnT ?_
  | with_reducible refine rd_ifnF ?_
  | ((with_reducible show rI (fun _ j => (0 : Int) < j) _ _ _ _ _); refine rd_mod (by omega) ?_)
  | with_reducible refine rd_new rfl ?_
  | ((with_reducible show rIxL _ _ (V.int 0) _ _); refine rd_ixL0 (by first | assumption | exact upd_same) ?_)
  | ((with_reducible show rIxL _ _ _ _ _); refine rd_ixL (by first | assumption | exact upd_same) rfl ?_)
  | ((with_reducible show rSetL _ _ _ _ _); refine rd_setL (by first | assumption | exact upd_same) rfl ?_)
  | ((with_reducible show rI CMul _ _ _ _ _); refine rd_mul (by first | exact Or.inl ⟨by omega, by omega⟩ | exact Or.inr ⟨by omega, by omega⟩) ?_)
  | ((with_reducible show tyV _ "list" _ _ ∧ _); refine rd_tyL (by first | assumption | exact upd_same) ?_)
  | ((with_reducible show rIxT _ _ (V.int 0) _ _); refine rd_ixT0 (by first | assumption | exact upd_same) ?_)
  | ((with_reducible show rIxT _ _ _ _ _); refine rd_ixT (by first | assumption | exact upd_same) rfl ?_))
local macro_rules | `(tactic| walk_at "rdn1") => `(tactic| first
  | with_reducible refine rd_seq ?_
  | with_reducible refine rd_asg ?_
  | ((with_reducible show tVar _ _ _ _); refine rd_var rfl ?_)
  | with_reducible refine rd_c ?_
  | with_reducible refine rd_op ?_
  | with_reducible refine rd_I0 ?_
  | with_reducible refine rd_name ?_
  | with_reducible refine rd_ret ?_
  | with_reducible refine rd_ifs ?_
  | with_reducible refine rd_test ?_
  | with_reducible refine rd_tB ?_
  | with_reducible refine rd_bl ?_
  | with_reducible refine rd_drop ?_
  | with_reducible refine rd_nil ?_
  | with_reducible refine rd_cons ?_
  | with_reducible refine rd_call ?_
  | with_reducible refine rd_cb ?_
  | with_reducible refine rd_tup ?_
  | with_reducible refine rd_lst ?_
  | with_reducible refine rd_and ?_
  | with_reducible refine rd_or ?_
  | with_reducible refine rd_not ?_
  | with_reducible refine rd_notV ?_
  | with_reducible refine rd_chain ?_
  | with_reducible refine rd_un ?_
  | with_reducible refine rd_isN ?_
  | with_reducible refine rd_bm ?_
  | with_reducible refine rd_bm0 ?_
  | with_reducible refine rd_gsub ?_
  | with_reducible refine rd_sl ?_
  | with_reducible refine rd_gt ?_
  | with_reducible refine rd_yes ?_
  | with_reducible refine rd_gcons ?_
  | with_reducible refine rd_gnil ?_
  | with_reducible refine rd_part ?_
  | with_reducible refine rd_nopart ?_
  | ((with_reducible show gTup _ _ _ _ _ _ _); refine rd_gtup (by first | assumption | exact upd_same) rfl ?_)
  | ((with_reducible show gLst _ _ _ _ _ _ _); refine rd_glst (by first | assumption | exact upd_same) rfl ?_)
  | ((with_reducible show rIsi _ _ _ _); first | refine rd_isi (b := true) (.ty _) (.base (by first | exact .int _ | exact .str _ | exact .bl _ | exact .non | exact .tup (by assumption) | exact .lst (by assumption))) (kit_ty (by decide +kernel)) ?_ | refine rd_isi (b := false) (.ty _) (.base (by first | exact .int _ | exact .str _ | exact .bl _ | exact .non | exact .tup (by assumption) | exact .lst (by assumption))) (kit_ty (by decide +kernel)) ?_)
  | with_reducible refine rd_fld ?_
  | with_reducible refine rd_sfld ?_
  | with_reducible refine rd_meth ?_
  | with_reducible refine rd_make ?_
  | with_reducible refine rd_makeK ?_
  | with_reducible refine rd_U ?_
  | with_reducible refine rd_makeKS ?_
  | with_reducible refine rd_callN ?_
  | with_reducible refine rd_rs ?_
  | with_reducible refine rd_rf ?_
  | with_reducible refine rd_star ?_
  | with_reducible refine rd_callS ?_
  | with_reducible refine rd_for ?_
  | with_reducible refine rd_lc ?_
  | with_reducible refine rd_ilist ?_
  | with_reducible refine rd_itup ?_
  | with_reducible refine rd_irng ?_
  | with_reducible refine rd_izipS ?_
  | with_reducible refine rd_ienum ?_
  | with_reducible refine rd_ienT ?_
  | with_reducible refine rd_next ?_
  | with_reducible refine rd_eq rfl ?_
  | with_reducible refine rd_ne rfl ?_
  | with_reducible refine iteT ?_
  | with_reducible refine iteF ?_
  | with_reducible refine rd_ifnT ?_
  | with_reducible refine rd_ifnF ?_
  | ((with_reducible show rI (fun _ j => (0 : Int) < j) _ _ _ _ _); refine rd_mod (by omega) ?_)
  | with_reducible refine rd_new rfl ?_
  | ((with_reducible show rIxL _ _ (V.int 0) _ _); refine rd_ixL0 (by first | assumption | exact upd_same) ?_)
  | ((with_reducible show rIxL _ _ _ _ _); refine rd_ixL (by first | assumption | exact upd_same) rfl ?_)
  | ((with_reducible show rSetL _ _ _ _ _); refine rd_setL (by first | assumption | exact upd_same) rfl ?_)
  | ((with_reducible show rI CMul _ _ _ _ _); refine rd_mul (by first | exact Or.inl ⟨by omega, by omega⟩ | exact Or.inr ⟨by omega, by omega⟩) ?_)
  | ((with_reducible show tyV _ "list" _ _ ∧ _); refine rd_tyL (by first | assumption | exact upd_same) ?_)
  | ((with_reducible show rIxT _ _ (V.int 0) _ _); refine rd_ixT0 (by first | assumption | exact upd_same) ?_)
  | ((with_reducible show rIxT _ _ _ _ _); refine rd_ixT (by first | assumption | exact upd_same) rfl ?_))
local macro_rules | `(tactic| walk_at "rd") => `(tactic| (repeat (first | walk_at "rd1" | dsimp only)))
local macro_rules | `(tactic| walk_at "rds") => `(tactic| (dsimp only [cxOf, Cx.nox, Cx.wish, Cx.blk, L2.start]; walk_at "rd"))
local macro_rules | `(tactic| walk_at "rdn") => `(tactic| (repeat (first | walk_at "rdn1" | dsimp only)))
section
variable {P : Program} {w : World} {K : PySem.W.Frag} {mg : Str → Option Value} {base : Heap}

def wB (as bs cs ds : List Int) : List (List Bool) := (List.range 8).map fun (r : Nat) => [decide ((r : Int) ∈ as), decide ((r : Int) ∈ bs), decide ((r : Int) ∈ cs), decide ((r : Int) ∈ ds)]
theorem wB_ws (as bs cs ds : List Int) : (wB as bs cs ds).map bD = wsD as bs cs ds := by
  unfold wB wsD
  rw [List.map_map]
  rfl
def letsB (as bs cs ds : List Int) (ri : Str) (l : List Int) : Bool := (zBs (gB (sgO l ri)) (wB as bs cs ds)).all fun x => x
def manyN (ri : Str) (l : List Int) : Int := ((gB (sgO l ri)).map fun q => ((q.countP fun b => b : Nat) : Int)).sum
def argm (f : List Int → Int) (l : List Int) (ls : List (List Int)) : List Int := ls.foldl (fun a y => if f y < f a then y else a) l
def prD (f : List Int → Int) (l : List Int) : PyData := .tuple [.int (f l), triD l]
def opM (as bs cs ds : List Int) : Option (List Int) := match allB.filter (letsB as bs cs ds (rgtS as bs cs ds)) with
  | [] => none
  | l :: ls => some (argm (manyN (rgtS as bs cs ds)) l ls)
def opD (as bs cs ds : List Int) : PyData := optD ((opM as bs cs ds).map fun l => (l, rgtS as bs cs ds))
theorem eqv_int (x y : Int) : PyData.eqv (.int x) (.int y) = decide (x = y) := by rw [PyData.eqv]; by_cases h : x = y <;> simp [h]
theorem tri_eqv {l m : List Int} (h1 : l ∈ allB) (h2 : m ∈ allB) : PyData.eqv (triD l) (triD m) = decide (l = m) := by
  obtain ⟨a, b, c, rfl, _⟩ := mem_allB h1
  obtain ⟨d, e, f, rfl, _⟩ := mem_allB h2
  show PyData.eqv (.tuple [.int a, .int b, .int c]) (.tuple [.int d, .int e, .int f]) = _
  rw [PyData.eqv, PyData.eqvAll, PyData.eqvAll, PyData.eqvAll, PyData.eqvAll, eqv_int, eqv_int, eqv_int]
  by_cases x : a = d <;> by_cases y : b = e <;> by_cases z : c = f <;> simp [x, y, z]
theorem pr_lt {f : List Int → Int} {y a : List Int} (h1 : y ∈ allB) (h2 : a ∈ allB) (h : triLt y a = false) : PySem.W.dataLt (prD f y) (prD f a) = decide (f y < f a) := by
  unfold prD
  rw [PySem.W.dataLt_pair rfl (tri_alike h1 h2), eqv_int, tri_eqv h1 h2, tri_lt h1 h2, h, PySem.W.dataLt_int]
  by_cases e : f y = f a
  · rw [if_pos (by simp [e])]
    simp [e]
  · rw [if_neg (by simp [e])]
theorem min_pr (f : List Int → Int) : ∀ (ls : List (List Int)) (a : List Int), a ∈ allB → (∀ y ∈ ls, y ∈ allB) → (∀ y ∈ ls, triLt y a = false) → (ls.Pairwise fun a b => triLt a b = true ∧ triLt b a = false) →
    (ls.map (prD f)).foldl (fun a y => if PySem.W.dataLt y a then y else a) (prD f a) = prD f (argm f a ls) ∧ argm f a ls ∈ a :: ls
  | [], a, _, _, _, _ => ⟨rfl, by unfold argm; simp⟩
  | y :: ls, a, ha, hm, hl, hp => by
    rw [List.map_cons, List.foldl_cons, pr_lt (hm y (by simp)) ha (hl y (by simp))]
    have hp' := List.pairwise_cons.mp hp
    have ea : argm f a (y :: ls) = argm f (if f y < f a then y else a) ls := rfl
    rw [ea]
    by_cases h : f y < f a
    · rw [if_pos (by simp [h]), if_pos h]
      obtain ⟨i1, i2⟩ := min_pr f ls y (hm y (by simp)) (fun z hz => hm z (by simp [hz])) (fun z hz => (hp'.1 z hz).2) hp'.2
      exact ⟨i1, by simp only [List.mem_cons] at i2 ⊢; exact .inr i2⟩
    · rw [if_neg (by simp [h]), if_neg h]
      obtain ⟨i1, i2⟩ := min_pr f ls a ha (fun z hz => hm z (by simp [hz])) (fun z hz => hl z (by simp [hz])) hp'.2
      exact ⟨i1, by simp only [List.mem_cons] at i2 ⊢; exact i2.elim .inl fun z => .inr (.inr z)⟩
theorem alike_prs {f : List Int → Int} {ls : List (List Int)} (h : ∀ x ∈ ls, x ∈ allB) : PySem.W.AlikeAll (ls.map (prD f)) := by
  refine ⟨fun x hx y hy => ?_, fun x hx => ?_⟩
  · obtain ⟨l, hl, rfl⟩ := List.mem_map.mp hx
    obtain ⟨m, hm, rfl⟩ := List.mem_map.mp hy
    have := tri_alike (h l hl) (h m hm)
    unfold prD
    rw [PySem.W.alike, PySem.W.alikeAll, PySem.W.alikeAll, this]
    rfl
  · obtain ⟨l, hl, rfl⟩ := List.mem_map.mp hx
    exact fun z => nomatch z
theorem prs_depth {f : List Int → Int} {ls : List (List Int)} (h : ∀ x ∈ ls, x ∈ allB) (hl : ls.length ≤ 1000) : PyData.depthAll (ls.map (prD f)) ≤ 60 := by
  refine Nat.le_trans (depth_all (j := 3) (okN_mapL hl fun x hx => ?_)) (by decide)
  obtain ⟨a, b, c, rfl, _⟩ := mem_allB (h x hx)
  refine ⟨by show 2 ≤ 1000000; decide, fun z hz => ?_⟩
  simp only [List.mem_cons, List.not_mem_nil, or_false] at hz
  rcases hz with rfl | rfl
  · trivial
  · exact ⟨by show 3 ≤ 1000000; decide, fun z hz => ok_ints [a, b, c] 0 z hz⟩
def spOp (NR : Addr) : Sp := fun vs H Q E => ∃ (a b c d : Addr) (as bs cs ds : List Int), vs = [.ref a, .ref b, .ref c, .ref d] ∧ L4 H a b c d as bs cs ds ∧ (∀ z ∈ as ++ bs ++ cs ++ ds, z.natAbs.log2 < 1920) ∧
  ((∀ z ∈ as ++ bs ++ cs ++ ds, below z 8 = true) → ∀ (v : V) (H' : Hp), Rp H' v (opD as bs cs ds) → Same H H' → Q v H') ∧ NoRE NR (as ++ bs ++ cs ++ ds) E H
theorem fn_op {f NR : Addr} {fd : FuncData} (B : BT mg) (F : Fun K "opening" "opening" s_opening f fd) (C_noR : CalX P w K mg base "refuse_no_ring" 4 ["reads", "writes", "runs", "calls"] (spNoR NR)) (C_wished_ways : Cal P w K mg base "wished_ways" 1 ["reads", "writes", "runs", "calls"] spWished)
    (C_rights_for : Cal P w K mg base "rights_for" 1 ["reads", "writes", "runs", "calls"] spRights) (C_all_brackets : Cal P w K mg base "all_brackets" 1 [] spBrk) (C_given_ways : Cal P w K mg base "given_ways" 3 ["brackets", "rights"] spGivenF)
    (C_lets_all : Cal P w K mg base "lets_all" 1 ["given", "wished"] spLets) (C_how_many : Cal P w K mg base "how_many" 1 ["given"] spHow) :
    FnOk P w K mg base (L2.CX P w) 5 f fd ["reads", "writes", "runs", "calls"] (spOp NR) := by
  refine F.okX sc_opening (fun vs H Q E h => ?_) (fun cdv A outer s H vs Q E hr h => ?_)
  · obtain ⟨a, b, c, d, as, bs, cs, ds, rfl, _⟩ := h
    rfl
  · obtain ⟨a, b, c, d, as, bs, cs, ds, rfl, L, big, k1, k2⟩ := h
    refine ⟨_, (pss_cons (ps_expr (pe_calS C_noR (takes_of rfl rfl rfl rfl) (hr.mono (by omega)) rfl (pa_cons (pv 0) (pa_cons (pv 1) (pa_cons (pv 2) (pa_cons (pv 3) pa_nil))))))
 (pss_cons (ps_set (i := 4) sc_opening.nd rfl (Or.inl rfl) (pe_cal C_wished_ways (hr.mono (by omega)) rfl (pa_cons (pv 0) (pa_cons (pv 1) (pa_cons (pv 2) (pa_cons (pv 3) pa_nil))))))
 (pss_cons (ps_set (i := 5) sc_opening.nd rfl (Or.inl rfl) (pe_cal C_rights_for (hr.mono (by omega)) rfl (pa_cons (pv 0) (pa_cons (pv 1) (pa_cons (pv 2) (pa_cons (pv 3) pa_nil))))))
 (pss_cons (ps_set (i := 6) sc_opening.nd rfl (Or.inl rfl) (pe_lst pa_nil))
 (pss_cons (ps_for (passes_of rfl) rfl (pi_listK (K := K) (pe_cal0 C_all_brackets (hr.mono (by omega)) rfl)) (pg_name (i := 7) sc_opening.nd rfl (Or.inl rfl))
 (pss_cons (ps_set (i := 8) sc_opening.nd rfl (Or.inl rfl) (pe_cal C_given_ways (hr.mono (by omega)) rfl (pa_cons (pv 7) (pa_cons (pv 5) pa_nil))))
 (pss_one (ps_if (pt_val (pe_cal C_lets_all (hr.mono (by omega)) rfl (pa_cons (pv 8) (pa_cons (pv 4) pa_nil)))) (pss_one (ps_expr (pe_bm PySem.F.plainAttrs_list PySem.F.slot_list_append PySem.F.type_list_append mt_append (pv 6) (pa_cons (pe_tup (pa_cons (pe_cal C_how_many (hr.mono (by omega)) rfl (pa_cons (pv 8) pa_nil)) (pa_cons (pv 7) pa_nil))) pa_nil)))) pss_nil))))
 (pss_cons (ps_if (pt_not (pt_truth (pv 6) (fun _ => rfl))) (pss_one (ps_ret pe_non)) pss_nil)
 (pss_cons (ps_asg (pe_callB (r := rMinT K) (cr_minT hr.units rfl) rfl B.g_min (by decide +kernel) (pa_cons (pv 6) pa_nil)) (pg_tup (by rfl) (pgs_cons (pg_name (i := 9) sc_opening.nd rfl (Or.inl rfl)) (pgs_cons (pg_name (i := 7) sc_opening.nd rfl (Or.inl rfl)) pgs_nil))))
 (pss_one (ps_ret (pe_tup (pa_cons (pv 7) (pa_cons (pv 5) pa_nil)))))))))))), ?_⟩
    walk_at "rds"
    refine ⟨a, b, c, d, as, bs, cs, ds, rfl, L, big, fun hok H1 s1 => ?_, k2⟩
    replace k1 := k1 hok
    have L1 := L.same s1
    walk_at "rd"
    refine ⟨a, b, c, d, as, bs, cs, ds, rfl, L1.a, L1.b, L1.c, L1.d, fun W us H2 nW hW rus s2 => ?_⟩
    have L2 := L1.same s2
    walk_at "rd"
    refine ⟨a, b, c, d, as, bs, cs, ds, rfl, L2.a, L2.b, L2.c, L2.d, fun H3 s3 => ?_⟩
    have s03 := (s1.trans s2).trans s3
    have hW3 := s3 _ _ hW
    have rus3 : RpAll H3 us ((wB as bs cs ds).map bD) := by rw [wB_ws]; exact rus.keep (Tk.of s3)
    unfold opD opM at k1
    generalize hri : rgtS as bs cs ds = ri at k1
    walk_at "rd"
    intro D hD
    have s4 := same_upd (o := .lst []) hD
    have e4 : upd H3 D (.lst []) D = some (.lst []) := upd_same
    generalize upd H3 D (.lst []) = H4 at s4 e4
    walk_at "rd"
    refine ⟨rfl, fun BL ub H5 nBL hBL rub s5 => ?_⟩
    have lub : ub.length = 120 := by rw [rub.length, List.length_map, allB_len]
    walk_at "rd"
    refine ⟨BL, rfl, ⟨_, SqL.of hBL⟩, ?_⟩
    have hbD : BL ≠ D := Ne.symm (ne_of_none e4 nBL)
    have sW3 := s3
    refine for_inv (walk_list (xs := ub)) (fun i σ' H' => (∃ c7 c8 c9 : Option V, σ' = [some (.ref a), some (.ref b), some (.ref c), some (.ref d), some (.ref W), some (.str ri), some (.ref D), c7, c8, c9]) ∧ ∃ vs, H' D = some (.lst vs) ∧ RpAll H' vs (((allB.take i).filter (letsB as bs cs ds ri)).map (prD (manyN ri))) ∧ (∀ c o, H5 c = some o → c ≠ D → H' c = some o) ∧ Same H3 H') ⟨⟨_, _, _, rfl⟩, [], s5 _ _ e4, .nil, fun c o e _ => e, s4.trans s5⟩ (fun i σ' H' _ p => by obtain ⟨_, _, _, _, p, _⟩ := p; exact SqL.of (p _ _ hBL hbD)) ?_ ?_
    · rintro B' i y σ1 Ha Hb hi ⟨⟨c7, c8, c9, rfl⟩, vs, hvs, rvs, sa, s3a⟩ ⟨rfl, hy⟩
      obtain ⟨dt, hdt, ry⟩ := rub.get hy
      rw [List.getElem?_map] at hdt
      obtain ⟨l, hl, rfl⟩ := Option.map_eq_some_iff.mp hdt
      have hmem := List.mem_of_getElem? hl
      obtain ⟨r1, r2, r3, rfl, _⟩ := mem_allB hmem
      have tkab : Tk H5 Hb := fun c xs e => sa c _ e (fun z => by rw [z, s5 _ _ e4] at e; cases e)
      replace ry := ry.keep tkab
      obtain ⟨pb, vb, rfl, hpb, rvb⟩ := id ry.tup_inv
      walk_at "rd"
      refine ⟨pb, r1, r2, r3, ri, rfl, ry, fun G ug H6 nG hG rug s6 => ?_⟩
      walk_at "rd"
      have sW : Same H3 H6 := s3a.trans s6
      refine ⟨G, W, ug, us, gB (sgO [r1, r2, r3] ri), wB as bs cs ds, rfl, hG, sW _ _ hW3, rug, rus3.keep (Tk.of sW), rfl, rfl, fun q hq => by obtain ⟨r, _, rfl⟩ := List.mem_map.mp hq; rfl, fun q hq => by obtain ⟨r, _, rfl⟩ := List.mem_map.mp hq; rfl, fun H7 s7 => ?_⟩
      have s67 := s6.trans s7
      have hvs7 := s67 _ _ hvs
      have rvs7 := rvs.keep (Tk.of s67)
      have efil : ((allB.take (i + 1)).filter (letsB as bs cs ds ri)) = ((allB.take i).filter (letsB as bs cs ds ri)) ++ if letsB as bs cs ds ri [r1, r2, r3] = true then [[r1, r2, r3]] else [] := by
        rw [take_snoc hl, List.filter_append, List.filter_cons, List.filter_nil]
      walk_at "rd"
      refine rd_ifb (fun hf => ?_) (fun hf => ?_)
      · have hf' : letsB as bs cs ds ri [r1, r2, r3] = true := hf
        walk_at "rd"
        refine ⟨G, ug, gB (sgO [r1, r2, r3] ri), rfl, s7 _ _ hG, rug.same s7, rfl, fun H8 s8 => ?_⟩
        have hvs8 := s8 _ _ hvs7
        walk_at "rd"
        intro q hq
        have s9 := same_upd (o := .tup [.int (manyN ri [r1, r2, r3]), .ref pb]) hq
        have e9 : upd H8 q (.tup [.int (manyN ri [r1, r2, r3]), .ref pb]) q = some (.tup [.int (manyN ri [r1, r2, r3]), .ref pb]) := upd_same
        generalize hH9 : upd H8 q (.tup [.int (manyN ri [r1, r2, r3]), .ref pb]) = H9 at s9 e9
        have hvs9 := s9 _ _ hvs8
        have sT := s67.trans (s8.trans s9)
        unfold manyN at hH9
        rw [hH9]
        walk_at "rd"
        have tk : Tk H9 (upd H9 D (.lst (vs ++ [.ref q]))) := Tk.lst hvs9
        refine rd_append hvs9 (small1000 (by rw [rvs.length, List.length_map]; exact Nat.le_trans (List.length_filter_le _ _) (by rw [List.length_take]; omega))) ?_
        refine ⟨⟨_, _, _, rfl⟩, vs ++ [.ref q], upd_same, ?_, fun c o e n => by rw [upd_ne n]; exact sT _ _ (sa _ _ e n), fun c o e => by rw [upd_ne (ne_of_none e hD)]; exact sT _ _ (s3a _ _ e)⟩
        rw [efil, if_pos hf', List.map_append]
        refine ((rvs.keep (Tk.of sT)).keep tk).append (.cons ?_ .nil)
        exact Rp.keep tk (.tup e9 (.cons (.int _) (.cons (ry.keep (Tk.of sT)) .nil)))
      · have hf' : letsB as bs cs ds ri [r1, r2, r3] = false := hf
        walk_at "rd"
        refine ⟨⟨_, _, _, rfl⟩, vs, hvs7, ?_, fun c o e n => s67 _ _ (sa _ _ e n), s3a.trans s67⟩
        rw [efil, if_neg (by rw [hf']; exact fun z => nomatch z), List.append_nil]
        exact rvs7
    · rintro σ1 Ha ⟨⟨c7, c8, c9, rfl⟩, vs, hvs, rvs, sa, s3a⟩
      rw [List.take_of_length_le (by rw [lub, allB_len]; exact Nat.le_refl _)] at rvs
      have sE : Same H Ha := s03.trans s3a
      have hsort := allB_sorted.filter (letsB as bs cs ds ri)
      have hsub : ∀ x ∈ allB.filter (letsB as bs cs ds ri), x ∈ allB := fun x hx => (List.mem_filter.mp hx).1
      have hflen := List.length_filter_le (letsB as bs cs ds ri) allB
      rw [allB_len] at hflen
      generalize (allB.filter (letsB as bs cs ds ri)) = fl at rvs hsort hsub hflen k1
      walk_at "rd"
      cases fl with
      | nil =>
        have := rvs.nil_inv
        subst this
        refine ⟨_, .inl ⟨_, SqL.of hvs, rfl⟩, ?_⟩
        refine (if_pos rfl).mpr ?_
        walk_at "rd"
        exact k1 _ _ .non sE
      | cons l ls =>
        obtain ⟨v0, vr, rfl, rv0, rvr⟩ := RpAll.cons_inv rvs
        refine ⟨_, .inl ⟨_, SqL.of hvs, rfl⟩, ?_⟩
        refine (if_neg (fun z => nomatch z)).mpr ?_
        walk_at "rd"
        have aa := alike_prs (f := manyN ri) hsub
        have hp := List.pairwise_cons.mp hsort
        obtain ⟨em, mm⟩ := min_pr (manyN ri) ls l (hsub l (by simp)) (fun y hy => hsub y (by simp [hy])) (fun y hy => (hp.1 y hy).2) hp.2
        refine ⟨D, v0 :: vr, prD (manyN ri) l, ls.map (prD (manyN ri)), rfl, hvs, rvs, aa, prs_depth hsub (by have := hflen; simp at this; simp; omega), fun u e hu ru he => ?_⟩
        rw [show PySem.W.minD (prD (manyN ri) l) (ls.map (prD (manyN ri))) = prD (manyN ri) (argm (manyN ri) l ls) from em] at he
        subst he
        obtain ⟨q, vq, rfl, hq, rvq⟩ := ru.tup_inv
        obtain ⟨w0, wr, rfl, rw0, rwr⟩ := rvq.cons_inv
        obtain ⟨w1, wr, rfl, rw1, rwr⟩ := rwr.cons_inv
        have e5 := rwr.nil_inv; subst e5
        have e6 := rw0.int_inv; subst e6
        walk_at "rd"
        intro p hp
        exact k1 _ _ (.tup upd_same (.cons (rw1.keep (Tk.new hp)) (.cons (.str _) .nil))) (sE.trans (same_upd hp))
theorem ok_op {f NR : Addr} {fd : FuncData} (F : Fun K "opening" "opening" s_opening f fd) (hm : mg "opening" = some (.ref f)) (FF : FnOk P w K mg base (L2.CX P w) 5 f fd ["reads", "writes", "runs", "calls"] (spOp NR)) : CalX P w K mg base "opening" 5 ["reads", "writes", "runs", "calls"] (spOp NR) :=
  ⟨f, fd, hm, F.kp, F.binds (ps := ["reads", "writes", "runs", "calls"]) fun _ _ _ _ _ _ us hl => match us, hl with | [_, _, _, _], _ => rfl, FF⟩
theorem okK_op {f NR : Addr} {fd : FuncData} (F : Fun K "opening" "opening" s_opening f fd) (hm : mg "opening" = some (.ref f)) (FF : FnOk P w K mg base (L2.CX P w) 5 f fd ["reads", "writes", "runs", "calls"] (spOp NR)) : CalK P w K mg base (L2.CX P w) "opening" 5 ["reads", "writes", "runs", "calls"] ["calls", "runs", "writes", "reads"] (fun vs zs => vs ++ zs.reverse) (spOp NR) :=
  ⟨f, fd, _, hm, F.kp, kbn_of F 0 ["calls", "runs", "writes", "reads"] (fun us ws => us ++ ws.reverse) (fun r1 r2 => r1.append (Vals_rev r2)) (fun _ _ _ _ _ _ us ws h1 h2 => match us, ws, h1, h2 with | [], [_, _, _, _], _, _ => rfl), FF⟩

end
end Rg

namespace Rg
open PySem PySem.Spec L2
local macro_rules | `(tactic| walk_at "rd1") => `(tactic| first
  | with_reducible refine rd_seq ?_
  | with_reducible refine rd_asg ?_
  | ((with_reducible show tVar _ _ _ _); refine rd_var rfl ?_)
  | with_reducible refine rd_c ?_
  | with_reducible refine rd_op ?_
  | with_reducible refine rd_I0 ?_
  | with_reducible refine rd_name ?_
  | with_reducible refine rd_ret ?_
  | with_reducible refine rd_ifs ?_
  | with_reducible refine rd_test ?_
  | with_reducible refine rd_tB ?_
  | with_reducible refine rd_bl ?_
  | with_reducible refine rd_drop ?_
  | with_reducible refine rd_nil ?_
  | with_reducible refine rd_cons ?_
  | with_reducible refine rd_call ?_
  | with_reducible refine rd_cb ?_
  | with_reducible refine rd_tup ?_
  | with_reducible refine rd_lst ?_
  | with_reducible refine rd_and ?_
  | with_reducible refine rd_or ?_
  | with_reducible refine rd_not ?_
  | with_reducible refine rd_andV ?_
  | with_reducible refine rd_orV ?_
  | with_reducible refine rd_notV ?_
  | with_reducible refine rd_chain ?_
  | with_reducible refine rd_un ?_
  | with_reducible refine rd_isN ?_
  | with_reducible refine rd_bm ?_
  | with_reducible refine rd_bm0 ?_
  | with_reducible refine rd_gsub ?_
  | with_reducible refine rd_sl ?_
  | with_reducible refine rd_gt ?_
  | with_reducible refine rd_yes ?_
  | with_reducible refine rd_gcons ?_
  | with_reducible refine rd_gnil ?_
  | with_reducible refine rd_part ?_
  | with_reducible refine rd_nopart ?_
  | ((with_reducible show gTup _ _ _ _ _ _ _); refine rd_gtup (by first | assumption | exact upd_same) rfl ?_)
  | ((with_reducible show gLst _ _ _ _ _ _ _); refine rd_glst (by first | assumption | exact upd_same) rfl ?_)
  | ((with_reducible show rIsi _ _ _ _); first | refine rd_isi (b := true) (.ty _) (.base (by first | exact .int _ | exact .str _ | exact .bl _ | exact .non | exact .tup (by assumption) | exact .lst (by assumption))) (kit_ty (by decide +kernel)) ?_ | refine rd_isi (b := false) (.ty _) (.base (by first | exact .int _ | exact .str _ | exact .bl _ | exact .non | exact .tup (by assumption) | exact .lst (by assumption))) (kit_ty (by decide +kernel)) ?_)
  | with_reducible refine rd_fld ?_
  | with_reducible refine rd_sfld ?_
  | with_reducible refine rd_meth ?_
  | with_reducible refine rd_make ?_
  | with_reducible refine rd_makeK ?_
  | with_reducible refine rd_U ?_
  | with_reducible refine rd_makeKS ?_
  | with_reducible refine rd_callN ?_
  | with_reducible refine rd_rs ?_
  | with_reducible refine rd_rf ?_
  | with_reducible refine rd_star ?_
  | with_reducible refine rd_callS ?_
  | with_reducible refine rd_for ?_
  | with_reducible refine rd_lc ?_
  | with_reducible refine rd_ilist ?_
  | with_reducible refine rd_itup ?_
  | with_reducible refine rd_irng ?_
  | with_reducible refine rd_izipS ?_
  | with_reducible refine rd_ienum ?_
  | with_reducible refine rd_ienT ?_
  | with_reducible refine rd_next ?_
  | with_reducible refine rd_eq rfl ?_
  | with_reducible refine rd_ne rfl ?_
  | with_reducible refine iteT ?_
  | with_reducible refine iteF ?_
  | with_reducible refine rd_ifnT ?_
  | with_reducible refine rd_ifnF ?_
  | ((with_reducible show rI (fun _ j => (0 : Int) < j) _ _ _ _ _); refine rd_mod (by omega) ?_)
  | with_reducible refine rd_new rfl ?_
  | ((with_reducible show rIxL _ _ (V.int 0) _ _); refine rd_ixL0 (by first | assumption | exact upd_same) ?_)
  | ((with_reducible show rIxL _ _ _ _ _); refine rd_ixL (by first | assumption | exact upd_same) rfl ?_)
  | ((with_reducible show rSetL _ _ _ _ _); refine rd_setL (by first | assumption | exact upd_same) rfl ?_)
  | ((with_reducible show rI CMul _ _ _ _ _); refine rd_mul (by first | exact Or.inl ⟨by omega, by omega⟩ | exact Or.inr ⟨by omega, by omega⟩) ?_)
  | ((with_reducible show tyV _ "list" _ _ ∧ _); refine rd_tyL (by first | assumption | exact upd_same) ?_)
  | ((with_reducible show rIxT _ _ (V.int 0) _ _); refine rd_ixT0 (by first | assumption | exact upd_same) ?_)
  | ((with_reducible show rIxT _ _ _ _ _); refine rd_ixT (by first | assumption | exact upd_same) rfl ?_))
local macro_rules | `(tactic| walk_at "rdn1") => `(tactic| first
  | with_reducible refine rd_seq ?_
  | with_reducible refine rd_asg ?_
  | ((with_reducible show tVar _ _ _ _); refine rd_var rfl ?_)
  | with_reducible refine rd_c ?_
  | with_reducible refine rd_op ?_
  | with_reducible refine rd_I0 ?_
  | with_reducible refine rd_name ?_
  | with_reducible refine rd_ret ?_
  | with_reducible refine rd_ifs ?_
  | with_reducible refine rd_test ?_
  | with_reducible refine rd_tB ?_
  | with_reducible refine rd_bl ?_
  | with_reducible refine rd_drop ?_
  | with_reducible refine rd_nil ?_
  | with_reducible refine rd_cons ?_
  | with_reducible refine rd_call ?_
  | with_reducible refine rd_cb ?_
  | with_reducible refine rd_tup ?_
  | with_reducible refine rd_lst ?_
  | with_reducible refine rd_and ?_
  | with_reducible refine rd_or ?_
  | with_reducible refine rd_not ?_
  | with_reducible refine rd_notV ?_
  | with_reducible refine rd_chain ?_
  | with_reducible refine rd_un ?_
  | with_reducible refine rd_isN ?_
  | with_reducible refine rd_bm ?_
  | with_reducible refine rd_bm0 ?_
  | with_reducible refine rd_gsub ?_
  | with_reducible refine rd_sl ?_
  | with_reducible refine rd_gt ?_
  | with_reducible refine rd_yes ?_
  | with_reducible refine rd_gcons ?_
  | with_reducible refine rd_gnil ?_
  | with_reducible refine rd_part ?_
  | with_reducible refine rd_nopart ?_
  | ((with_reducible show gTup _ _ _ _ _ _ _); refine rd_gtup (by first | assumption | exact upd_same) rfl ?_)
  | ((with_reducible show gLst _ _ _ _ _ _ _); refine rd_glst (by first | assumption | exact upd_same) rfl ?_)
  | ((with_reducible show rIsi _ _ _ _); first | refine rd_isi (b := true) (.ty _) (.base (by first | exact .int _ | exact .str _ | exact .bl _ | exact .non | exact .tup (by assumption) | exact .lst (by assumption))) (kit_ty (by decide +kernel)) ?_ | refine rd_isi (b := false) (.ty _) (.base (by first | exact .int _ | exact .str _ | exact .bl _ | exact .non | exact .tup (by assumption) | exact .lst (by assumption))) (kit_ty (by decide +kernel)) ?_)
  | with_reducible refine rd_fld ?_
  | with_reducible refine rd_sfld ?_
  | with_reducible refine rd_meth ?_
  | with_reducible refine rd_make ?_
  | with_reducible refine rd_makeK ?_
  | with_reducible refine rd_U ?_
  | with_reducible refine rd_makeKS ?_
  | with_reducible refine rd_callN ?_
  | with_reducible refine rd_rs ?_
  | with_reducible refine rd_rf ?_
  | with_reducible refine rd_star ?_
  | with_reducible refine rd_callS ?_
  | with_reducible refine rd_for ?_
  | with_reducible refine rd_lc ?_
  | with_reducible refine rd_ilist ?_
  | with_reducible refine rd_itup ?_
  | with_reducible refine rd_irng ?_
  | with_reducible refine rd_izipS ?_
  | with_reducible refine rd_ienum ?_
  | with_reducible refine rd_ienT ?_
  | with_reducible refine rd_next ?_
  | with_reducible refine rd_eq rfl ?_
  | with_reducible refine rd_ne rfl ?_
  | with_reducible refine iteT ?_
  | with_reducible refine iteF ?_
  | with_reducible refine rd_ifnT ?_
  | with_reducible refine rd_ifnF ?_
  | ((with_reducible show rI (fun _ j => (0 : Int) < j) _ _ _ _ _); refine rd_mod (by omega) ?_)
  | with_reducible refine rd_new rfl ?_
  | ((with_reducible show rIxL _ _ (V.int 0) _ _); refine rd_ixL0 (by first | assumption | exact upd_same) ?_)
  | ((with_reducible show rIxL _ _ _ _ _); refine rd_ixL (by first | assumption | exact upd_same) rfl ?_)
  | ((with_reducible show rSetL _ _ _ _ _); refine rd_setL (by first | assumption | exact upd_same) rfl ?_)
  | ((with_reducible show rI CMul _ _ _ _ _); refine rd_mul (by first | exact Or.inl ⟨by omega, by omega⟩ | exact Or.inr ⟨by omega, by omega⟩) ?_)
  | ((with_reducible show tyV _ "list" _ _ ∧ _); refine rd_tyL (by first | assumption | exact upd_same) ?_)
  | ((with_reducible show rIxT _ _ (V.int 0) _ _); refine rd_ixT0 (by first | assumption | exact upd_same) ?_)
  | ((with_reducible show rIxT _ _ _ _ _); refine rd_ixT (by first | assumption | exact upd_same) rfl ?_))
local macro_rules | `(tactic| walk_at "rd") => `(tactic| (repeat (first | walk_at "rd1" | dsimp only)))
local macro_rules | `(tactic| walk_at "rds") => `(tactic| (dsimp only [cxOf, Cx.nox, Cx.wish, Cx.blk, L2.start]; walk_at "rd"))
local macro_rules | `(tactic| walk_at "rdn") => `(tactic| (repeat (first | walk_at "rdn1" | dsimp only)))
section
variable {P : Program} {w : World} {K : PySem.W.Frag} {mg : Str → Option Value} {base : Heap}

/-! least openings: the law's going through and the program's -/
def stepL (as bs cs ds : List Int) (s : Option (List Int × Str) × Nat) (c : List Int × Str) : Option (List Int × Str) × Nat :=
  if (!lacB (at4 as bs cs ds) (sgO c.1 c.2) cells8 && decide (beyN (at4 as bs cs ds) (sgO c.1 c.2) cells8 < s.2)) = true then (some c, beyN (at4 as bs cs ds) (sgO c.1 c.2) cells8) else s
theorem countP_mono {α : Type} {p q : α → Bool} : ∀ {l : List α}, (∀ x ∈ l, p x = true → q x = true) → l.countP p ≤ l.countP q ∧ ((∃ x ∈ l, q x = true ∧ p x = false) → l.countP p < l.countP q)
  | [], _ => ⟨Nat.le_refl _, fun ⟨_, h, _⟩ => by cases h⟩
  | a :: l, h => by
    obtain ⟨i1, i2⟩ := countP_mono (l := l) fun x hx => h x (by simp [hx])
    have ha := h a (by simp)
    rw [List.countP_cons, List.countP_cons]
    cases hp : p a <;> cases hq : q a
    · refine ⟨by simpa using i1, ?_⟩
      rintro ⟨x, hx, h1, h2⟩
      have : x ∈ l := by
        rcases List.mem_cons.mp hx with rfl | hx
        · rw [h1] at hq; cases hq
        · exact hx
      simpa using i2 ⟨x, this, h1, h2⟩
    · exact ⟨by simp; omega, fun _ => by simp; omega⟩
    · rw [ha hp] at hq; cases hq
    · refine ⟨by simpa using i1, ?_⟩
      rintro ⟨x, hx, h1, h2⟩
      have : x ∈ l := by
        rcases List.mem_cons.mp hx with rfl | hx
        · rw [hp] at h2; cases h2
        · exact hx
      simpa using i2 ⟨x, this, h1, h2⟩
theorem rgt_bits (as bs cs ds : List Int) : (has 114 (rgtS as bs cs ds) = true ↔ as ≠ []) ∧ (has 119 (rgtS as bs cs ds) = true ↔ bs ≠ []) ∧ (has 120 (rgtS as bs cs ds) = true ↔ ¬ (cs = [] ∧ ds = [])) := by
  unfold rgtS
  by_cases h1 : as = [] <;> by_cases h2 : bs = [] <;> by_cases h3 : cs = [] ∧ ds = [] <;> simp only [h1, h2, h3, if_true, if_false, and_self, not_true, not_false_iff, ne_eq, iff_true, iff_false, Bool.not_eq_true] <;> decide +kernel
theorem may_bits {l : List Int} {ri rj : Str} (h1 : has 114 ri = true → has 114 rj = true) (h2 : has 119 ri = true → has 119 rj = true) (h3 : has 120 ri = true → has 120 rj = true) (r : Int) (k : Nat) (h : mayK (sgO l ri) r k = true) : mayK (sgO l rj) r k = true := by
  have up : ∀ {a b c : Bool}, (a = true → b = true) → (a && c) = true → (b && c) = true := by decide
  match k with
  | 0 => exact up h1 (show mRead (sgO l ri) r = true from h)
  | 1 => exact up h2 (show mWrite (sgO l ri) r = true from h)
  | 2 => exact up h3 (show mRun (sgO l ri) r = true from h)
  | 3 => exact up h3 (show mCall (sgO l ri) r = true from h)
  | k + 4 => exact absurd h (by show ¬ ([mRead (sgO l ri) r, mWrite (sgO l ri) r, mRun (sgO l ri) r, mCall (sgO l ri) r].getD (k + 4) false = true); simp)
theorem lac_iff {g : Nat → List Int} {s : Sg} : lacB g s cells8 = false ↔ ∀ x ∈ cells8, (x.1 : Int) ∈ g x.2 → mayK s (x.1 : Int) x.2 = true := by
  unfold lacB
  rw [List.any_eq_false]
  constructor
  · intro h x hx hm
    have := h x hx
    rw [decide_eq_true hm] at this
    simpa using this
  · intro h x hx
    by_cases hm : (x.1 : Int) ∈ g x.2
    · rw [h x hx hm]; simp
    · rw [decide_eq_false hm]; simp
/-- one more letter than the wishes need lets some ring do what none is to -/
theorem more_rights {n : Nat} {as bs cs ds : List Int} {a b c : Int} {ri : Str} (hR : Rgs n as bs cs ds) (h0 : 0 ≤ a) (h1 : a ≤ b) (h2 : b ≤ c) (h3 : c ≤ 7) (hri : ri ∈ rightsO) (hl : lacB (at4 as bs cs ds) (sgO [a, b, c] ri) cells8 = false) :
    lacB (at4 as bs cs ds) (sgO [a, b, c] (rgtS as bs cs ds)) cells8 = false ∧ (ri = rgtS as bs cs ds ∨ beyN (at4 as bs cs ds) (sgO [a, b, c] (rgtS as bs cs ds)) cells8 < beyN (at4 as bs cs ds) (sgO [a, b, c] ri) cells8) := by
  have hl' := lac_iff.mp hl
  obtain ⟨g1, g2, g3⟩ := rgt_bits as bs cs ds
  have Ra := (hR as (by simp)).2
  have Rb := (hR bs (by simp)).2
  have Rc := (hR cs (by simp)).2
  have Rd := (hR ds (by simp)).2
  have cell : ∀ (r k : Nat), r < 8 → k < 4 → (r, k) ∈ cells8 := fun r k hr hk => List.mem_flatMap.mpr ⟨r, List.mem_range.mpr hr, List.mem_map.mpr ⟨k, List.mem_range.mpr hk, rfl⟩⟩
  have lift : ∀ z : Int, 0 ≤ z → z < 8 → ∃ r : Nat, r < 8 ∧ (r : Int) = z := fun z p q => ⟨z.toNat, by omega, by omega⟩
  have b1 : has 114 (rgtS as bs cs ds) = true → has 114 ri = true := fun h => by
    obtain ⟨z, hz⟩ := ne_nil_of.mp (g1.mp h)
    obtain ⟨r, hr, rfl⟩ := lift z (Ra z hz).1 (Ra z hz).2
    have := hl' (r, 0) (cell r 0 hr (by decide)) hz
    exact (Bool.and_eq_true _ _ ▸ (show mRead (sgO [a, b, c] ri) r = true from this)).1
  have b2 : has 119 (rgtS as bs cs ds) = true → has 119 ri = true := fun h => by
    obtain ⟨z, hz⟩ := ne_nil_of.mp (g2.mp h)
    obtain ⟨r, hr, rfl⟩ := lift z (Rb z hz).1 (Rb z hz).2
    have := hl' (r, 1) (cell r 1 hr (by decide)) hz
    exact (Bool.and_eq_true _ _ ▸ (show mWrite (sgO [a, b, c] ri) r = true from this)).1
  have b3 : has 120 (rgtS as bs cs ds) = true → has 120 ri = true := fun h => by
    by_cases hc : cs = []
    · obtain ⟨z, hz⟩ := ne_nil_of.mp (fun e => g3.mp h ⟨hc, e⟩ : ds ≠ [])
      obtain ⟨r, hr, rfl⟩ := lift z (Rd z hz).1 (Rd z hz).2
      have := hl' (r, 3) (cell r 3 hr (by decide)) hz
      exact (Bool.and_eq_true _ _ ▸ (show mCall (sgO [a, b, c] ri) r = true from this)).1
    · obtain ⟨z, hz⟩ := ne_nil_of.mp hc
      obtain ⟨r, hr, rfl⟩ := lift z (Rc z hz).1 (Rc z hz).2
      have := hl' (r, 2) (cell r 2 hr (by decide)) hz
      exact (Bool.and_eq_true _ _ ▸ (show mRun (sgO [a, b, c] ri) r = true from this)).1
  have mono : ∀ x ∈ cells8, (mayK (sgO [a, b, c] (rgtS as bs cs ds)) (x.1 : Int) x.2 && !decide ((x.1 : Int) ∈ at4 as bs cs ds x.2)) = true → (mayK (sgO [a, b, c] ri) (x.1 : Int) x.2 && !decide ((x.1 : Int) ∈ at4 as bs cs ds x.2)) = true := fun x _ h => by
    rw [Bool.and_eq_true] at h ⊢
    exact ⟨may_bits b1 b2 b3 _ _ h.1, h.2⟩
  refine ⟨lac_iff.mpr fun x hx hm => ?_, ?_⟩
  · have hm2 := hl' x hx hm
    obtain ⟨r, hr, hx2⟩ := List.mem_flatMap.mp hx
    obtain ⟨k, hk, rfl⟩ := List.mem_map.mp hx2
    have hk4 := List.mem_range.mp hk
    have and_of : ∀ {p q p' : Bool}, (p && q) = true → p' = true → (p' && q) = true := by decide
    match k, hk4 with
    | 0, _ => exact and_of (show mRead (sgO [a, b, c] ri) r = true from hm2) (g1.mpr (ne_nil_of.mpr ⟨_, hm⟩))
    | 1, _ => exact and_of (show mWrite (sgO [a, b, c] ri) r = true from hm2) (g2.mpr (ne_nil_of.mpr ⟨_, hm⟩))
    | 2, _ => exact and_of (show mRun (sgO [a, b, c] ri) r = true from hm2) (g3.mpr fun e => ne_nil_of.mpr ⟨_, hm⟩ e.1)
    | 3, _ => exact and_of (show mCall (sgO [a, b, c] ri) r = true from hm2) (g3.mpr fun e => ne_nil_of.mpr ⟨_, hm⟩ e.2)
  · by_cases he : ri = rgtS as bs cs ds
    · exact .inl he
    right
    refine (countP_mono mono).2 ?_
    have nb : ∀ {p q : Bool}, ¬ (p = true → q = true) → p = true ∧ q = false := by decide
    by_cases d1 : has 114 ri = true → has 114 (rgtS as bs cs ds) = true
    · by_cases d2 : has 119 ri = true → has 119 (rgtS as bs cs ds) = true
      · by_cases d3 : has 120 ri = true → has 120 (rgtS as bs cs ds) = true
        · exfalso
          have e1 : has 114 ri = has 114 (rgtS as bs cs ds) := Bool.eq_iff_iff.mpr ⟨d1, b1⟩
          have e2 : has 119 ri = has 119 (rgtS as bs cs ds) := Bool.eq_iff_iff.mpr ⟨d2, b2⟩
          have e3 : has 120 ri = has 120 (rgtS as bs cs ds) := Bool.eq_iff_iff.mpr ⟨d3, b3⟩
          refine he ?_
          rw [ri_bits ri hri, ri_bits _ (rgt_mem as bs cs ds), e1, e2, e3]
        · obtain ⟨x1, x2⟩ := nb d3
          have hn : cs = [] ∧ ds = [] := by
            by_cases h : cs = [] ∧ ds = []
            · exact h
            · rw [g3.mpr h] at x2; cases x2
          obtain ⟨r, hr, e⟩ := lift a h0 (by omega)
          refine ⟨(r, 2), cell r 2 hr (by decide), ?_, ?_⟩
          · show (mRun (sgO [a, b, c] ri) r && !decide ((r : Int) ∈ cs)) = true
            unfold mRun sgO
            rw [hn.1, e, x1]
            simp [h1]
          · show (mRun (sgO [a, b, c] (rgtS as bs cs ds)) r && !decide ((r : Int) ∈ cs)) = false
            unfold mRun sgO
            rw [x2]
            rfl
      · obtain ⟨x1, x2⟩ := nb d2
        have hn : bs = [] := by
          by_cases h : bs = []
          · exact h
          · rw [g2.mpr h] at x2; cases x2
        refine ⟨(0, 1), cell 0 1 (by decide) (by decide), ?_, ?_⟩
        · show (mWrite (sgO [a, b, c] ri) 0 && !decide ((0 : Int) ∈ bs)) = true
          unfold mWrite sgO
          rw [hn, x1]
          simp [h0]
        · show (mWrite (sgO [a, b, c] (rgtS as bs cs ds)) 0 && !decide ((0 : Int) ∈ bs)) = false
          unfold mWrite sgO
          rw [x2]
          rfl
    · obtain ⟨x1, x2⟩ := nb d1
      have hn : as = [] := by
        by_cases h : as = []
        · exact h
        · rw [g1.mpr h] at x2; cases x2
      refine ⟨(0, 0), cell 0 0 (by decide) (by decide), ?_, ?_⟩
      · show (mRead (sgO [a, b, c] ri) 0 && !decide ((0 : Int) ∈ as)) = true
        unfold mRead sgO
        rw [hn, x1]
        simp [show (0 : Int) ≤ b by omega]
      · show (mRead (sgO [a, b, c] (rgtS as bs cs ds)) 0 && !decide ((0 : Int) ∈ as)) = false
        unfold mRead sgO
        rw [x2]
        rfl
/-- the eight rights of one bracket, gone through -/
def stp {α : Type} (g : α → Bool) (b : α → Nat) (s : Option α × Nat) (c : α) : Option α × Nat := if (g c && decide (b c < s.2)) = true then (some c, b c) else s
theorem stp_end {α : Type} {g : α → Bool} {b : α → Nat} : ∀ (l : List α) (s : Option α × Nat), (l.foldl (stp g b) s = s ∧ ∀ y ∈ l, g y = true → s.2 ≤ b y) ∨ (∃ y ∈ l, l.foldl (stp g b) s = (some y, b y) ∧ g y = true ∧ b y < s.2 ∧ ∀ z ∈ l, g z = true → b y ≤ b z)
  | [], s => .inl ⟨rfl, fun y hy => (nomatch hy)⟩
  | c :: l, s => by
    rw [List.foldl_cons]
    by_cases h : (g c && decide (b c < s.2)) = true
    · have e : stp g b s c = (some c, b c) := if_pos h
      rw [e]
      rw [Bool.and_eq_true, decide_eq_true_eq] at h
      right
      rcases stp_end l (some c, b c) with ⟨h1, h2⟩ | ⟨y, hy, h1, h2, h3, h4⟩
      · refine ⟨c, by simp, h1, h.1, h.2, fun z hz hg => ?_⟩
        rcases List.mem_cons.mp hz with rfl | hz
        · exact Nat.le_refl _
        · exact h2 z hz hg
      · refine ⟨y, by simp [hy], h1, h2, Nat.lt_trans h3 h.2, fun z hz hg => ?_⟩
        rcases List.mem_cons.mp hz with rfl | hz
        · exact Nat.le_of_lt h3
        · exact h4 z hz hg
    · have e : stp g b s c = s := if_neg h
      rw [e]
      rw [Bool.and_eq_true, decide_eq_true_eq] at h
      rcases stp_end l s with ⟨h1, h2⟩ | ⟨y, hy, h1, h2, h3, h4⟩
      · refine .inl ⟨h1, fun z hz hg => ?_⟩
        rcases List.mem_cons.mp hz with rfl | hz
        · exact Nat.le_of_not_lt fun q => h ⟨hg, q⟩
        · exact h2 z hz hg
      · refine .inr ⟨y, by simp [hy], h1, h2, h3, fun z hz hg => ?_⟩
        rcases List.mem_cons.mp hz with rfl | hz
        · have := Nat.le_of_not_lt fun q => h ⟨hg, q⟩
          omega
        · exact h4 z hz hg
theorem stp_one {α : Type} {g : α → Bool} {b : α → Nat} {x : α} {l : List α} (hx : x ∈ l) (hu : ∀ y ∈ l, g y = true → g x = true ∧ (y = x ∨ b x < b y)) (s : Option α × Nat) : l.foldl (stp g b) s = stp g b s x := by
  rcases stp_end (g := g) (b := b) l s with ⟨h1, h2⟩ | ⟨y, hy, h1, h2, h3, h4⟩
  · rw [h1]
    unfold stp
    rw [if_neg]
    rw [Bool.and_eq_true, decide_eq_true_eq]
    intro h
    have := h2 x hx h.1
    omega
  · obtain ⟨gx, e⟩ := hu y hy h2
    have : y = x := by
      rcases e with e | e
      · exact e
      · have := h4 x hx gx
        omega
    subst this
    rw [h1]
    unfold stp
    rw [if_pos]
    rw [Bool.and_eq_true, decide_eq_true_eq]
    exact ⟨h2, h3⟩
def gdL (as bs cs ds : List Int) (l : List Int) : Bool := !lacB (at4 as bs cs ds) (sgO l (rgtS as bs cs ds)) cells8
def byL (as bs cs ds : List Int) (l : List Int) : Nat := beyN (at4 as bs cs ds) (sgO l (rgtS as bs cs ds)) cells8
theorem fold_ch {n : Nat} {as bs cs ds : List Int} (hR : Rgs n as bs cs ds) : ∀ (L : List (List Int)) (s : Option (List Int × Str) × Nat), (∀ l ∈ L, l ∈ allB) → (chF L).foldl (stepL as bs cs ds) s = L.foldl (fun s l => if (gdL as bs cs ds l && decide (byL as bs cs ds l < s.2)) = true then (some (l, rgtS as bs cs ds), byL as bs cs ds l) else s) s
  | [], _, _ => rfl
  | l :: L, s, h => by
    obtain ⟨a, b, c, rfl, h0, h1, h2, h3⟩ := mem_allB (h l (by simp))
    have e : chF ([a, b, c] :: L) = (rightsO.map fun ri => ([a, b, c], ri)) ++ chF L := List.flatMap_cons
    rw [e, List.foldl_append, fold_ch hR L _ fun x hx => h x (by simp [hx]), List.foldl_cons]
    congr 1
    have := stp_one (g := fun c : List Int × Str => !lacB (at4 as bs cs ds) (sgO c.1 c.2) cells8) (b := fun c : List Int × Str => beyN (at4 as bs cs ds) (sgO c.1 c.2) cells8) (x := ([a, b, c], rgtS as bs cs ds)) (l := rightsO.map fun ri => ([a, b, c], ri)) (List.mem_map.mpr ⟨_, rgt_mem as bs cs ds, rfl⟩) (fun y hy hg => by
      obtain ⟨ri, hri, rfl⟩ := List.mem_map.mp hy
      have hl : lacB (at4 as bs cs ds) (sgO [a, b, c] ri) cells8 = false := by simpa using hg
      obtain ⟨m1, m2⟩ := more_rights hR h0 h1 h2 h3 hri hl
      refine ⟨by simpa using m1, ?_⟩
      rcases m2 with rfl | m2
      · exact .inl rfl
      · exact .inr m2) s
    exact this
theorem zBs_all {s : Sg} {as bs cs ds : List Int} : ((zBs (gB s) (wB as bs cs ds)).all fun x => x) = !lacB (at4 as bs cs ds) s cells8 := by
  have hz : zBs (gB s) (wB as bs cs ds) = cells8.map fun p => mayK s (p.1 : Int) p.2 || !decide ((p.1 : Int) ∈ at4 as bs cs ds p.2) := by
    unfold zBs gB wB cells8
    rw [List.zip_map', List.flatMap_map, List.map_flatMap]
    first
      | rfl
      | (congr 1)
  rw [hz]
  unfold lacB
  rw [List.all_map, Bool.eq_iff_iff, List.all_eq_true, Bool.not_eq_true', List.any_eq_false]
  have tw : ∀ p q : Bool, (p || !q) = true ↔ ¬ (q && !p) = true := by decide
  exact forall_congr' fun x => forall_congr' fun hx => tw _ _
theorem lets_gd {as bs cs ds l : List Int} : letsB as bs cs ds (rgtS as bs cs ds) l = gdL as bs cs ds l := zBs_all
/-- all that is told -/
def wishN (as bs cs ds : List Int) : Nat := cells8.countP fun p => decide ((p.1 : Int) ∈ at4 as bs cs ds p.2)
theorem many_by {as bs cs ds l : List Int} (h : gdL as bs cs ds l = true) : manyN (rgtS as bs cs ds) l = ((byL as bs cs ds l + wishN as bs cs ds : Nat) : Int) := by
  have hl := lac_iff.mp (show lacB (at4 as bs cs ds) (sgO l (rgtS as bs cs ds)) cells8 = false by simpa [gdL] using h)
  have e1 : manyN (rgtS as bs cs ds) l = ((cells8.countP fun p => mayK (sgO l (rgtS as bs cs ds)) (p.1 : Int) p.2 : Nat) : Int) := by
    unfold manyN gB cells8
    generalize sgO l (rgtS as bs cs ds) = sg
    rw [List.countP_flatMap, List.map_map]
    have : ∀ L : List Nat, (L.map ((fun q : List Bool => ((q.countP fun b => b : Nat) : Int)) ∘ fun (r : Nat) => [mRead sg r, mWrite sg r, mRun sg r, mCall sg r])).sum = (((L.map (List.countP (fun p : Nat × Nat => mayK sg (p.1 : Int) p.2) ∘ fun r => (List.range 4).map fun k => (r, k))).sum : Nat) : Int) := fun L => by
      induction L with
      | nil => rfl
      | cons a L ih =>
        rw [List.map_cons, List.sum_cons, List.map_cons, List.sum_cons, ih, Int.natCast_add]
        rfl
    exact this _
  rw [e1]
  unfold byL beyN wishN
  generalize sgO l (rgtS as bs cs ds) = sg at hl
  congr 1
  revert hl
  generalize cells8 = C
  intro hl
  induction C with
  | nil => rfl
  | cons a C ih =>
    rw [List.countP_cons, List.countP_cons, List.countP_cons, ih fun x hx => hl x (by simp [hx])]
    have ha := hl a (by simp)
    by_cases hm : (a.1 : Int) ∈ at4 as bs cs ds a.2
    · rw [ha hm, decide_eq_true hm]
      simp
      omega
    · rw [decide_eq_false hm]
      cases mayK sg (a.1 : Int) a.2 <;> simp
      omega
theorem bey_lt {g : Nat → List Int} {s : Sg} : beyN g s cells8 < 100 := Nat.lt_of_le_of_lt List.countP_le_length (by decide)
theorem argm_congr {f g : List Int → Int} : ∀ (ls : List (List Int)) (a : List Int), (∀ x ∈ a :: ls, ∀ y ∈ a :: ls, (f y < f x ↔ g y < g x)) → argm f a ls = argm g a ls
  | [], _, _ => rfl
  | y :: ls, a, h => by
    have ea : ∀ f : List Int → Int, argm f a (y :: ls) = argm f (if f y < f a then y else a) ls := fun _ => rfl
    rw [ea, ea]
    have h1 := h a (by simp) y (by simp)
    by_cases c : f y < f a
    · rw [if_pos c, if_pos (h1.mp c)]
      exact argm_congr ls y fun x hx z hz => h x (List.mem_cons_of_mem _ hx) z (List.mem_cons_of_mem _ hz)
    · rw [if_neg c, if_neg fun q => c (h1.mpr q)]
      exact argm_congr ls a fun x hx z hz => h x (by simp only [List.mem_cons] at hx ⊢; exact hx.elim .inl fun q => .inr (.inr q)) z (by simp only [List.mem_cons] at hz ⊢; exact hz.elim .inl fun q => .inr (.inr q))
theorem fold_arg {as bs cs ds : List Int} : ∀ (ls : List (List Int)) (a : List Int), (∀ y ∈ ls, gdL as bs cs ds y = true) →
    ls.foldl (fun s l => if (gdL as bs cs ds l && decide (byL as bs cs ds l < s.2)) = true then (some (l, rgtS as bs cs ds), byL as bs cs ds l) else s) (some (a, rgtS as bs cs ds), byL as bs cs ds a) = (some (argm (fun l => (byL as bs cs ds l : Int)) a ls, rgtS as bs cs ds), byL as bs cs ds (argm (fun l => (byL as bs cs ds l : Int)) a ls))
  | [], _, _ => rfl
  | y :: ls, a, h => by
    have ea : argm (fun l => (byL as bs cs ds l : Int)) a (y :: ls) = argm (fun l => (byL as bs cs ds l : Int)) (if (byL as bs cs ds y : Int) < byL as bs cs ds a then y else a) ls := rfl
    rw [List.foldl_cons, h y (by simp), ea]
    by_cases c : byL as bs cs ds y < byL as bs cs ds a
    · rw [if_pos (by simp [c]), if_pos (by omega)]
      exact fold_arg ls y fun z hz => h z (by simp [hz])
    · rw [if_neg (by simp [c]), if_neg (by omega)]
      exact fold_arg ls a fun z hz => h z (by simp [hz])
theorem argm_zero {as bs cs ds : List Int} : ∀ (ls : List (List Int)) (a : List Int), (a :: ls).find? (fun l => decide (byL as bs cs ds l = 0)) = if byL as bs cs ds (argm (fun l => (byL as bs cs ds l : Int)) a ls) = 0 then some (argm (fun l => (byL as bs cs ds l : Int)) a ls) else none
  | [], a => by
    have e : argm (fun l => (byL as bs cs ds l : Int)) a [] = a := rfl
    rw [e, List.find?_cons, List.find?_nil]
    by_cases c : byL as bs cs ds a = 0
    · rw [if_pos c, decide_eq_true c]
    · rw [if_neg c, decide_eq_false c]
  | y :: ls, a => by
    have ea : argm (fun l => (byL as bs cs ds l : Int)) a (y :: ls) = argm (fun l => (byL as bs cs ds l : Int)) (if (byL as bs cs ds y : Int) < byL as bs cs ds a then y else a) ls := rfl
    rw [ea]
    by_cases c : byL as bs cs ds y < byL as bs cs ds a
    · rw [if_pos (show (byL as bs cs ds y : Int) < byL as bs cs ds a by omega), ← argm_zero ls y, List.find?_cons, decide_eq_false (show ¬ byL as bs cs ds a = 0 by omega)]
    · rw [if_neg (show ¬ (byL as bs cs ds y : Int) < byL as bs cs ds a by omega), ← argm_zero ls a]
      by_cases z : byL as bs cs ds a = 0
      · rw [List.find?_cons, List.find?_cons, List.find?_cons, decide_eq_true z]
      · rw [List.find?_cons, List.find?_cons, List.find?_cons, decide_eq_false z, decide_eq_false (show ¬ byL as bs cs ds y = 0 by omega)]
theorem due_op {n : Nat} {as bs cs ds : List Int} (hR : Rgs n as bs cs ds) {s : Option (List Int × Str) × Nat} (hs : choices.foldl (stepL as bs cs ds) (none, 100) = s) :
    opD as bs cs ds = optD s.1 ∧ (s.2 = 0 → ∃ c ∈ choices, s.1 = some c ∧ bfD as bs cs ds = optD (some c)) ∧ (s.2 ≠ 0 → bfD as bs cs ds = .none) := by
  rw [show choices = chF allB from rfl, fold_ch hR allB _ fun l hl => hl] at hs
  have hfil : ∀ (L : List (List Int)) (s : Option (List Int × Str) × Nat), L.foldl (fun s l => if (gdL as bs cs ds l && decide (byL as bs cs ds l < s.2)) = true then (some (l, rgtS as bs cs ds), byL as bs cs ds l) else s) s = (L.filter (gdL as bs cs ds)).foldl (fun s l => if (gdL as bs cs ds l && decide (byL as bs cs ds l < s.2)) = true then (some (l, rgtS as bs cs ds), byL as bs cs ds l) else s) s := fun L => by
    induction L with
    | nil => intro _; rfl
    | cons a L ih =>
      intro s
      rw [List.foldl_cons, List.filter_cons]
      cases hg : gdL as bs cs ds a with
      | true => rw [if_pos rfl, List.foldl_cons, ih, hg]
      | false => rw [if_neg (fun z => nomatch z), ih]; rfl
  rw [hfil] at hs
  have hfd : (allB.find? fun l => fitD as bs cs ds l (rgtS as bs cs ds)) = (allB.filter (gdL as bs cs ds)).find? fun l => decide (byL as bs cs ds l = 0) := by
    rw [List.find?_filter]
    congr 1
    funext l
    have e1 : fitD as bs cs ds l (rgtS as bs cs ds) = goodC as bs cs ds (l, rgtS as bs cs ds) := Bool.eq_iff_iff.mpr (fitD_iff.trans (good_iff (c := (l, rgtS as bs cs ds))).symm)
    rw [e1]
    unfold goodC gdL byL
    rw [Bool.and_comm]
    dsimp only
    cases lacB (at4 as bs cs ds) (sgO l (rgtS as bs cs ds)) cells8 <;> by_cases z : beyN (at4 as bs cs ds) (sgO l (rgtS as bs cs ds)) cells8 = 0 <;> simp [z]
  have hop : opM as bs cs ds = match allB.filter (gdL as bs cs ds) with | [] => none | l :: ls => some (argm (manyN (rgtS as bs cs ds)) l ls) := by
    unfold opM
    rw [show letsB as bs cs ds (rgtS as bs cs ds) = gdL as bs cs ds from funext fun l => lets_gd]
    try (cases allB.filter (gdL as bs cs ds) <;> rfl)
  unfold opD bfD
  rw [hop, hfd]
  have hg : ∀ l ∈ allB.filter (gdL as bs cs ds), gdL as bs cs ds l = true := fun l hl => (List.mem_filter.mp hl).2
  have hb : ∀ l ∈ allB.filter (gdL as bs cs ds), l ∈ allB := fun l hl => (List.mem_filter.mp hl).1
  generalize allB.filter (gdL as bs cs ds) = fl at hs hg hb
  cases fl with
  | nil =>
    subst hs
    exact ⟨rfl, fun h => absurd (show (100 : Nat) = 0 from h) (by decide), fun _ => rfl⟩
  | cons l ls =>
    have e0 : (gdL as bs cs ds l && decide (byL as bs cs ds l < 100)) = true := by
      rw [hg l (by simp), decide_eq_true (show byL as bs cs ds l < 100 from bey_lt)]
      rfl
    rw [List.foldl_cons, if_pos e0, fold_arg ls l fun y hy => hg y (by simp [hy])] at hs
    have ec : argm (manyN (rgtS as bs cs ds)) l ls = argm (fun l => (byL as bs cs ds l : Int)) l ls := argm_congr ls l fun x hx y hy => by
      rw [many_by (hg x hx), many_by (hg y hy)]
      omega
    have hm : argm (fun l => (byL as bs cs ds l : Int)) l ls ∈ l :: ls := by
      have : ∀ (ls : List (List Int)) (a : List Int), argm (fun l => (byL as bs cs ds l : Int)) a ls ∈ a :: ls := fun ls => by
        induction ls with
        | nil => intro a; exact List.mem_singleton.mpr rfl
        | cons y ls ih =>
          intro a
          show argm (fun l => (byL as bs cs ds l : Int)) (if (byL as bs cs ds y : Int) < byL as bs cs ds a then y else a) ls ∈ _
          have := ih (if (byL as bs cs ds y : Int) < byL as bs cs ds a then y else a)
          rcases List.mem_cons.mp this with h | h
          · rw [h]
            split <;> simp
          · exact List.mem_cons_of_mem _ (List.mem_cons_of_mem _ h)
      exact this ls l
    dsimp only
    rw [ec, argm_zero ls l]
    subst hs
    refine ⟨rfl, fun h => ?_, fun h => ?_⟩
    · dsimp only at h
      rw [if_pos h]
      exact ⟨_, List.mem_flatMap.mpr ⟨_, hb _ hm, List.mem_map.mpr ⟨_, rgt_mem as bs cs ds, rfl⟩⟩, rfl, rfl⟩
    · dsimp only at h
      rw [if_neg h]

end
end Rg

namespace Rg
open PySem PySem.Spec L2
local macro_rules | `(tactic| walk_at "rd1") => `(tactic| first
  | with_reducible refine rd_seq ?_
  | with_reducible refine rd_asg ?_
  | ((with_reducible show tVar _ _ _ _); refine rd_var rfl ?_)
  | with_reducible refine rd_c ?_
  | with_reducible refine rd_op ?_
  | with_reducible refine rd_I0 ?_
  | with_reducible refine rd_name ?_
  | with_reducible refine rd_ret ?_
  | with_reducible refine rd_ifs ?_
  | with_reducible refine rd_test ?_
  | with_reducible refine rd_tB ?_
  | with_reducible refine rd_bl ?_
  | with_reducible refine rd_drop ?_
  | with_reducible refine rd_nil ?_
  | with_reducible refine rd_cons ?_
  | with_reducible refine rd_call ?_
  | with_reducible refine rd_cb ?_
  | with_reducible refine rd_tup ?_
  | with_reducible refine rd_lst ?_
  | with_reducible refine rd_and ?_
  | with_reducible refine rd_or ?_
  | with_reducible refine rd_not ?_
  | with_reducible refine rd_andV ?_
  | with_reducible refine rd_orV ?_
  | with_reducible refine rd_notV ?_
  | with_reducible refine rd_chain ?_
  | with_reducible refine rd_un ?_
  | with_reducible refine rd_isN ?_
  | with_reducible refine rd_bm ?_
  | with_reducible refine rd_bm0 ?_
  | with_reducible refine rd_gsub ?_
  | with_reducible refine rd_sl ?_
  | with_reducible refine rd_gt ?_
  | with_reducible refine rd_yes ?_
  | with_reducible refine rd_gcons ?_
  | with_reducible refine rd_gnil ?_
  | with_reducible refine rd_part ?_
  | with_reducible refine rd_nopart ?_
  | ((with_reducible show gTup _ _ _ _ _ _ _); refine rd_gtup (by first | assumption | exact upd_same) rfl ?_)
  | ((with_reducible show gLst _ _ _ _ _ _ _); refine rd_glst (by first | assumption | exact upd_same) rfl ?_)
  | ((with_reducible show rIsi _ _ _ _); first | refine rd_isi (b := true) (.ty _) (.base (by first | exact .int _ | exact .str _ | exact .bl _ | exact .non | exact .tup (by assumption) | exact .lst (by assumption))) (kit_ty (by decide +kernel)) ?_ | refine rd_isi (b := false) (.ty _) (.base (by first | exact .int _ | exact .str _ | exact .bl _ | exact .non | exact .tup (by assumption) | exact .lst (by assumption))) (kit_ty (by decide +kernel)) ?_)
  | with_reducible refine rd_fld ?_
  | with_reducible refine rd_sfld ?_
  | with_reducible refine rd_meth ?_
  | with_reducible refine rd_make ?_
  | with_reducible refine rd_makeK ?_
  | with_reducible refine rd_U ?_
  | with_reducible refine rd_makeKS ?_
  | with_reducible refine rd_callN ?_
  | with_reducible refine rd_rs ?_
  | with_reducible refine rd_rf ?_
  | with_reducible refine rd_star ?_
  | with_reducible refine rd_callS ?_
  | with_reducible refine rd_for ?_
  | with_reducible refine rd_lc ?_
  | with_reducible refine rd_ilist ?_
  | with_reducible refine rd_itup ?_
  | with_reducible refine rd_irng ?_
  | with_reducible refine rd_izipS ?_
  | with_reducible refine rd_ienum ?_
  | with_reducible refine rd_ienT ?_
  | with_reducible refine rd_next ?_
  | with_reducible refine rd_eq rfl ?_
  | with_reducible refine rd_ne rfl ?_
  | with_reducible refine iteT ?_
  | with_reducible refine iteF ?_
  | with_reducible refine rd_ifnT ?_
  | with_reducible refine rd_ifnF ?_
  | ((with_reducible show rI (fun _ j => (0 : Int) < j) _ _ _ _ _); refine rd_mod (by omega) ?_)
  | with_reducible refine rd_new rfl ?_
  | ((with_reducible show rIxL _ _ (V.int 0) _ _); refine rd_ixL0 (by first | assumption | exact upd_same) ?_)
  | ((with_reducible show rIxL _ _ _ _ _); refine rd_ixL (by first | assumption | exact upd_same) rfl ?_)
  | ((with_reducible show rSetL _ _ _ _ _); refine rd_setL (by first | assumption | exact upd_same) rfl ?_)
  | ((with_reducible show rI CMul _ _ _ _ _); refine rd_mul (by first | exact Or.inl ⟨by omega, by omega⟩ | exact Or.inr ⟨by omega, by omega⟩) ?_)
  | ((with_reducible show tyV _ "list" _ _ ∧ _); refine rd_tyL (by first | assumption | exact upd_same) ?_)
  | ((with_reducible show rIxT _ _ (V.int 0) _ _); refine rd_ixT0 (by first | assumption | exact upd_same) ?_)
  | ((with_reducible show rIxT _ _ _ _ _); refine rd_ixT (by first | assumption | exact upd_same) rfl ?_))
local macro_rules | `(tactic| walk_at "rdn1") => `(tactic| first
  | with_reducible refine rd_seq ?_
  | with_reducible refine rd_asg ?_
  | ((with_reducible show tVar _ _ _ _); refine rd_var rfl ?_)
  | with_reducible refine rd_c ?_
  | with_reducible refine rd_op ?_
  | with_reducible refine rd_I0 ?_
  | with_reducible refine rd_name ?_
  | with_reducible refine rd_ret ?_
  | with_reducible refine rd_ifs ?_
  | with_reducible refine rd_test ?_
  | with_reducible refine rd_tB ?_
  | with_reducible refine rd_bl ?_
  | with_reducible refine rd_drop ?_
  | with_reducible refine rd_nil ?_
  | with_reducible refine rd_cons ?_
  | with_reducible refine rd_call ?_
  | with_reducible refine rd_cb ?_
  | with_reducible refine rd_tup ?_
  | with_reducible refine rd_lst ?_
  | with_reducible refine rd_and ?_
  | with_reducible refine rd_or ?_
  | with_reducible refine rd_not ?_
  | with_reducible refine rd_notV ?_
  | with_reducible refine rd_chain ?_
  | with_reducible refine rd_un ?_
  | with_reducible refine rd_isN ?_
  | with_reducible refine rd_bm ?_
  | with_reducible refine rd_bm0 ?_
  | with_reducible refine rd_gsub ?_
  | with_reducible refine rd_sl ?_
  | with_reducible refine rd_gt ?_
  | with_reducible refine rd_yes ?_
  | with_reducible refine rd_gcons ?_
  | with_reducible refine rd_gnil ?_
  | with_reducible refine rd_part ?_
  | with_reducible refine rd_nopart ?_
  | ((with_reducible show gTup _ _ _ _ _ _ _); refine rd_gtup (by first | assumption | exact upd_same) rfl ?_)
  | ((with_reducible show gLst _ _ _ _ _ _ _); refine rd_glst (by first | assumption | exact upd_same) rfl ?_)
  | ((with_reducible show rIsi _ _ _ _); first | refine rd_isi (b := true) (.ty _) (.base (by first | exact .int _ | exact .str _ | exact .bl _ | exact .non | exact .tup (by assumption) | exact .lst (by assumption))) (kit_ty (by decide +kernel)) ?_ | refine rd_isi (b := false) (.ty _) (.base (by first | exact .int _ | exact .str _ | exact .bl _ | exact .non | exact .tup (by assumption) | exact .lst (by assumption))) (kit_ty (by decide +kernel)) ?_)
  | with_reducible refine rd_fld ?_
  | with_reducible refine rd_sfld ?_
  | with_reducible refine rd_meth ?_
  | with_reducible refine rd_make ?_
  | with_reducible refine rd_makeK ?_
  | with_reducible refine rd_U ?_
  | with_reducible refine rd_makeKS ?_
  | with_reducible refine rd_callN ?_
  | with_reducible refine rd_rs ?_
  | with_reducible refine rd_rf ?_
  | with_reducible refine rd_star ?_
  | with_reducible refine rd_callS ?_
  | with_reducible refine rd_for ?_
  | with_reducible refine rd_lc ?_
  | with_reducible refine rd_ilist ?_
  | with_reducible refine rd_itup ?_
  | with_reducible refine rd_irng ?_
  | with_reducible refine rd_izipS ?_
  | with_reducible refine rd_ienum ?_
  | with_reducible refine rd_ienT ?_
  | with_reducible refine rd_next ?_
  | with_reducible refine rd_eq rfl ?_
  | with_reducible refine rd_ne rfl ?_
  | with_reducible refine iteT ?_
  | with_reducible refine iteF ?_
  | with_reducible refine rd_ifnT ?_
  | with_reducible refine rd_ifnF ?_
  | ((with_reducible show rI (fun _ j => (0 : Int) < j) _ _ _ _ _); refine rd_mod (by omega) ?_)
  | with_reducible refine rd_new rfl ?_
  | ((with_reducible show rIxL _ _ (V.int 0) _ _); refine rd_ixL0 (by first | assumption | exact upd_same) ?_)
  | ((with_reducible show rIxL _ _ _ _ _); refine rd_ixL (by first | assumption | exact upd_same) rfl ?_)
  | ((with_reducible show rSetL _ _ _ _ _); refine rd_setL (by first | assumption | exact upd_same) rfl ?_)
  | ((with_reducible show rI CMul _ _ _ _ _); refine rd_mul (by first | exact Or.inl ⟨by omega, by omega⟩ | exact Or.inr ⟨by omega, by omega⟩) ?_)
  | ((with_reducible show tyV _ "list" _ _ ∧ _); refine rd_tyL (by first | assumption | exact upd_same) ?_)
  | ((with_reducible show rIxT _ _ (V.int 0) _ _); refine rd_ixT0 (by first | assumption | exact upd_same) ?_)
  | ((with_reducible show rIxT _ _ _ _ _); refine rd_ixT (by first | assumption | exact upd_same) rfl ?_))
local macro_rules | `(tactic| walk_at "rd") => `(tactic| (repeat (first | walk_at "rd1" | dsimp only)))
local macro_rules | `(tactic| walk_at "rds") => `(tactic| (dsimp only [cxOf, Cx.nox, Cx.wish, Cx.blk, L2.start]; walk_at "rd"))
local macro_rules | `(tactic| walk_at "rdn") => `(tactic| (repeat (first | walk_at "rdn1" | dsimp only)))
section
variable {P : Program} {w : World} {K : PySem.W.Frag} {mg : Str → Option Value} {base : Heap}

theorem ways_lay (n : Nat) (f : Nat → PyData) (h : ∀ r, ∃ a b c d : Bool, f r = .tuple [.bool a, .bool b, .bool c, .bool d]) : SeqAt.shaped (.list ((List.range n).map f)) = true ∨ 1000 < n := by
  by_cases hn : 1000 < n
  · exact .inr hn
  · refine .inl (shaped_of (j := 3) (lay_map _ fun r _ => ?_) (okN_mapL (by rw [List.length_range]; omega) fun r _ => ?_) (by decide))
    · obtain ⟨a, b, c, d, e⟩ := h r
      rw [e]
      rfl
    · obtain ⟨a, b, c, d, e⟩ := h r
      rw [e]
      exact ⟨by show 4 ≤ 1000000; decide, fun z hz => by
        simp only [List.mem_cons, List.not_mem_nil, or_false] at hz
        rcases hz with rfl | rfl | rfl | rfl <;> trivial⟩
theorem giv_shaped (l : List Int) (ri : Str) : SeqAt.shaped (.list (givD l ri)) = true := (ways_lay 8 _ fun r => ⟨_, _, _, _, rfl⟩).resolve_right (by decide)
theorem ws_shaped (as bs cs ds : List Int) : SeqAt.shaped (.list (wsD as bs cs ds)) = true := (ways_lay 8 _ fun r => ⟨_, _, _, _, rfl⟩).resolve_right (by decide)
def spBf (NR : Addr) : Sp := fun vs H Q E => ∃ (a b c d : Addr) (as bs cs ds : List Int), vs = [.ref a, .ref b, .ref c, .ref d] ∧ L4 H a b c d as bs cs ds ∧ (∀ z ∈ as ++ bs ++ cs ++ ds, z.natAbs.log2 < 1920) ∧
  ((∀ z ∈ as ++ bs ++ cs ++ ds, below z 8 = true) → ∀ (v : V) (H' : Hp), Rp H' v (bfD as bs cs ds) → Same H H' → Q v H') ∧ NoRE NR (as ++ bs ++ cs ++ ds) E H
theorem fn_bf {f NR : Addr} {fd : FuncData} (B : BT mg) (F : Fun K "brackets_for" "brackets_for" s_brackets_for f fd) (C_noR : CalX P w K mg base "refuse_no_ring" 4 ["reads", "writes", "runs", "calls"] (spNoR NR)) (C_wished_ways : Cal P w K mg base "wished_ways" 1 ["reads", "writes", "runs", "calls"] spWished)
    (C_rights_for : Cal P w K mg base "rights_for" 1 ["reads", "writes", "runs", "calls"] spRights) (C_all_brackets : Cal P w K mg base "all_brackets" 1 [] spBrk) (C_given_ways : Cal P w K mg base "given_ways" 3 ["brackets", "rights"] spGivenF) :
    FnOk P w K mg base (L2.CX P w) 5 f fd ["reads", "writes", "runs", "calls"] (spBf NR) := by
  refine F.okX sc_brackets_for (fun vs H Q E h => ?_) (fun cdv A outer s H vs Q E hr h => ?_)
  · obtain ⟨a, b, c, d, as, bs, cs, ds, rfl, _⟩ := h
    rfl
  · obtain ⟨a, b, c, d, as, bs, cs, ds, rfl, L, big, k1, k2⟩ := h
    refine ⟨_, (pss_cons (ps_expr (pe_calS C_noR (takes_of rfl rfl rfl rfl) (hr.mono (by omega)) rfl (pa_cons (pv 0) (pa_cons (pv 1) (pa_cons (pv 2) (pa_cons (pv 3) pa_nil))))))
 (pss_cons (ps_set (i := 4) sc_brackets_for.nd rfl (Or.inr rfl) (pe_cal C_wished_ways (hr.mono (by omega)) rfl (pa_cons (pv 0) (pa_cons (pv 1) (pa_cons (pv 2) (pa_cons (pv 3) pa_nil))))))
 (pss_cons (ps_set (i := 5) sc_brackets_for.nd rfl (Or.inr rfl) (pe_cal C_rights_for (hr.mono (by omega)) rfl (pa_cons (pv 0) (pa_cons (pv 1) (pa_cons (pv 2) (pa_cons (pv 3) pa_nil))))))
 (pss_cons (ps_setLc (i := 6) (own := [("brackets", 7)]) (g := gName 7) rfl sc_brackets_for.nd rfl rfl (sw_true rfl rfl rfl (by decide +kernel)) (pi_listK (K := K) (pe_cal0 C_all_brackets (hr.mono (by omega)) rfl)) (blkOk_by (own := [("brackets", 7)]) (N := ["reads", "writes", "runs", "calls", "wished", "rights", "fitting", "brackets"]) (sc := defScope s_brackets_for) (by decide +kernel)) (fun _ _ _ _ _ => (pg_name (i := 7) sc_brackets_for.nd rfl (by first | exact Or.inl rfl | exact Or.inr rfl))) (fun _ _ _ _ _ => (pts_one (pt_cmpR (r := rEqD K) (op_eqD hr.units) (pe_cal C_given_ways (hr.mono (by omega)) rfl (pa_cons (pv 7) (pa_cons (pv 5) pa_nil))) (pv 4) (nomark _)))) (fun _ _ _ _ _ => (pv 7)))
 (pss_one (ps_ret (pe_ifExp (pt_truth (pv 6) (fun _ => rfl)) (pe_tup (pa_cons (pe_callB (r := rMinT K) (cr_minT hr.units rfl) rfl B.g_min (by decide +kernel) (pa_cons (pv 6) pa_nil)) (pa_cons (pv 5) pa_nil))) pe_non))))))), ?_⟩
    walk_at "rds"
    refine ⟨a, b, c, d, as, bs, cs, ds, rfl, L, big, fun hok H1 s1 => ?_, k2⟩
    replace k1 := k1 hok
    have L1 := L.same s1
    walk_at "rd"
    refine ⟨a, b, c, d, as, bs, cs, ds, rfl, L1.a, L1.b, L1.c, L1.d, fun W us H2 nW hW rus s2 => ?_⟩
    have L2 := L1.same s2
    walk_at "rd"
    refine ⟨a, b, c, d, as, bs, cs, ds, rfl, L2.a, L2.b, L2.c, L2.d, fun H3 s3 => ?_⟩
    have s03 := (s1.trans s2).trans s3
    have hW3 := s3 _ _ hW
    have rus3 := rus.keep (Tk.of s3)
    generalize hri : rgtS as bs cs ds = ri
    walk_at "rd"
    refine ⟨rfl, fun BL ub H4 nBL hBL rub s4 => ?_⟩
    have lub : ub.length = 120 := by rw [rub.length, List.length_map, allB_len]
    walk_at "rd"
    refine ⟨BL, rfl, ⟨_, SqL.of hBL⟩, fun D hD => ?_⟩
    have hbD := Ne.symm (ne_of_none hBL hD)
    refine lc_it (walk_list (xs := ub)) (fun i H' => ∃ vs, H' D = some (.lst vs) ∧ RpAll H' vs (((allB.take i).filter fun l => fitD as bs cs ds l ri).map triD) ∧ Same H4 H') ⟨[], upd_same, .nil, same_upd hD⟩ (fun i H' _ p => by obtain ⟨_, _, _, p⟩ := p; exact SqL.of (p _ _ hBL)) ?_ ?_
    · rintro i y Ha Hb hi ⟨vs, hvs, rvs, sa⟩ ⟨rfl, hy⟩
      obtain ⟨dt, hdt, ry⟩ := rub.get hy
      rw [List.getElem?_map] at hdt
      obtain ⟨l, hl, rfl⟩ := Option.map_eq_some_iff.mp hdt
      have hmem := List.mem_of_getElem? hl
      obtain ⟨r1, r2, r3, rfl, _⟩ := mem_allB hmem
      replace ry := ry.keep (Tk.of sa)
      obtain ⟨pb, vb, rfl, hpb, rvb⟩ := id ry.tup_inv
      walk_at "rd"
      refine ⟨rfl, ?_⟩
      walk_at "rd"
      refine ⟨pb, r1, r2, r3, ri, rfl, ry, fun G ug H5 nG hG rug s5 => ?_⟩
      walk_at "rd"
      have sW : Same H3 H5 := (s4.trans sa).trans s5
      refine rd_eqD (d := .list (givD [r1, r2, r3] ri)) (e := .list (wsD as bs cs ds)) (.lst (SqL.of hG) (gB_giv [r1, r2, r3] ri ▸ RwF.dp rug)) (.lst (SqL.of (sW _ _ hW3)) (rus3.keep (Tk.of sW)).dp) (giv_shaped _ _) (ws_shaped _ _ _ _) ?_
      walk_at "rd"
      have hvs5 := s5 _ _ hvs
      have rvs5 := rvs.keep (Tk.of s5)
      refine rd_ifb (fun hf => ?_) (fun hf => ?_)
      · walk_at "rd"
        have tk : Tk H5 (upd H5 D (.lst (vs ++ [.ref pb]))) := Tk.lst hvs5
        refine ⟨vs, hvs5, small1000 (by rw [rvs.length, List.length_map]; exact Nat.le_trans (List.length_filter_le _ _) (by rw [List.length_take]; omega)), vs ++ [.ref pb], upd_same, ?_, fun c o e => by rw [upd_ne (ne_of_none e hD)]; exact s5 _ _ (sa _ _ e)⟩
        rw [take_snoc hl, List.filter_append, List.filter_cons, if_pos (show fitD as bs cs ds [r1, r2, r3] ri = true from hf), List.map_append]
        exact (rvs5.keep tk).append (.cons ((ry.keep (Tk.of s5)).keep tk) .nil)
      · refine ⟨vs, hvs5, ?_, sa.trans s5⟩
        rw [take_snoc hl, List.filter_append, List.filter_cons, if_neg (by rw [show fitD as bs cs ds [r1, r2, r3] ri = false from hf]; exact fun z => nomatch z), List.filter_nil, List.append_nil]
        exact rvs5
    · rintro Ha ⟨vs, hvs, rvs, sa⟩
      rw [List.take_of_length_le (by rw [lub, allB_len]; exact Nat.le_refl _)] at rvs
      have sE : Same H Ha := (s03.trans s4).trans sa
      have hfd : (allB.filter fun l => fitD as bs cs ds l ri).head? = allB.find? fun l => fitD as bs cs ds l ri := List.head?_filter
      have hsort := allB_sorted.filter fun l => fitD as bs cs ds l ri
      have hsub : ∀ x ∈ allB.filter (fun l => fitD as bs cs ds l ri), x ∈ allB := fun x hx => (List.mem_filter.mp hx).1
      have ebf : bfD as bs cs ds = match allB.find? fun l => fitD as bs cs ds l ri with | none => .none | some l => .tuple [triD l, .str ri] := by
        subst hri
        rfl
      rw [← hfd] at ebf
      have hflen := List.length_filter_le (fun l => fitD as bs cs ds l ri) allB
      rw [allB_len] at hflen
      generalize (allB.filter fun l => fitD as bs cs ds l ri) = fl at rvs ebf hsort hsub hflen
      walk_at "rd"
      refine rd_tif ?_
      walk_at "rd"
      cases fl with
      | nil =>
        have := rvs.nil_inv
        subst this
        refine ⟨_, .inl ⟨_, SqL.of hvs, rfl⟩, ?_⟩
        refine (if_neg (by decide)).mpr ?_
        walk_at "rd"
        rw [ebf] at k1
        exact k1 _ _ .non sE
      | cons l ls =>
        obtain ⟨v0, vr, rfl, rv0, rvr⟩ := RpAll.cons_inv rvs
        refine ⟨_, .inl ⟨_, SqL.of hvs, rfl⟩, ?_⟩
        refine (if_pos rfl).mpr ?_
        walk_at "rd"
        have aa := alike_tris hsub
        refine ⟨D, v0 :: vr, triD l, ls.map triD, rfl, hvs, rvs, aa, tris_depth hsub (by have := rvs.length; simp at this; have := hflen; simp at this; omega), fun u e hu ru he => ?_⟩
        rw [min_tri hsub hsort] at he
        subst he
        walk_at "rd"
        intro p hp
        rw [ebf] at k1
        exact k1 _ _ (.tup upd_same (.cons (ru.keep (Tk.new hp)) (.cons (.str _) .nil))) (sE.trans (same_upd hp))
theorem ok_bf {f NR : Addr} {fd : FuncData} (F : Fun K "brackets_for" "brackets_for" s_brackets_for f fd) (hm : mg "brackets_for" = some (.ref f)) (FF : FnOk P w K mg base (L2.CX P w) 5 f fd ["reads", "writes", "runs", "calls"] (spBf NR)) : CalX P w K mg base "brackets_for" 5 ["reads", "writes", "runs", "calls"] (spBf NR) :=
  ⟨f, fd, hm, F.kp, F.binds (ps := ["reads", "writes", "runs", "calls"]) fun _ _ _ _ _ _ us hl => match us, hl with | [_, _, _, _], _ => rfl, FF⟩
theorem okK_bf {f NR : Addr} {fd : FuncData} (F : Fun K "brackets_for" "brackets_for" s_brackets_for f fd) (hm : mg "brackets_for" = some (.ref f)) (FF : FnOk P w K mg base (L2.CX P w) 5 f fd ["reads", "writes", "runs", "calls"] (spBf NR)) : CalK P w K mg base (L2.CX P w) "brackets_for" 5 ["reads", "writes", "runs", "calls"] ["calls", "runs", "writes", "reads"] (fun vs zs => vs ++ zs.reverse) (spBf NR) :=
  ⟨f, fd, _, hm, F.kp, kbn_of F 0 ["calls", "runs", "writes", "reads"] (fun us ws => us ++ ws.reverse) (fun r1 r2 => r1.append (Vals_rev r2)) (fun _ _ _ _ _ _ us ws h1 h2 => match us, ws, h1, h2 with | [], [_, _, _, _], _, _ => rfl), FF⟩

end
end Rg

namespace Rg
open PySem PySem.Spec L2
local macro_rules | `(tactic| walk_at "rd1") => `(tactic| first
  | with_reducible refine rd_seq ?_
  | with_reducible refine rd_asg ?_
  | ((with_reducible show tVar _ _ _ _); refine rd_var rfl ?_)
  | with_reducible refine rd_c ?_
  | with_reducible refine rd_op ?_
  | with_reducible refine rd_I0 ?_
  | with_reducible refine rd_name ?_
  | with_reducible refine rd_ret ?_
  | with_reducible refine rd_ifs ?_
  | with_reducible refine rd_test ?_
  | with_reducible refine rd_tB ?_
  | with_reducible refine rd_bl ?_
  | with_reducible refine rd_drop ?_
  | with_reducible refine rd_nil ?_
  | with_reducible refine rd_cons ?_
  | with_reducible refine rd_call ?_
  | with_reducible refine rd_cb ?_
  | with_reducible refine rd_tup ?_
  | with_reducible refine rd_lst ?_
  | with_reducible refine rd_and ?_
  | with_reducible refine rd_or ?_
  | with_reducible refine rd_not ?_
  | with_reducible refine rd_andV ?_
  | with_reducible refine rd_orV ?_
  | with_reducible refine rd_notV ?_
  | with_reducible refine rd_chain ?_
  | with_reducible refine rd_un ?_
  | with_reducible refine rd_isN ?_
  | with_reducible refine rd_bm ?_
  | with_reducible refine rd_bm0 ?_
  | with_reducible refine rd_gsub ?_
  | with_reducible refine rd_sl ?_
  | with_reducible refine rd_gt ?_
  | with_reducible refine rd_yes ?_
  | with_reducible refine rd_gcons ?_
  | with_reducible refine rd_gnil ?_
  | with_reducible refine rd_part ?_
  | with_reducible refine rd_nopart ?_
  | ((with_reducible show gTup _ _ _ _ _ _ _); refine rd_gtup (by first | assumption | exact upd_same) rfl ?_)
  | ((with_reducible show gLst _ _ _ _ _ _ _); refine rd_glst (by first | assumption | exact upd_same) rfl ?_)
  | ((with_reducible show rIsi _ _ _ _); first | refine rd_isi (b := true) (.ty _) (.base (by first | exact .int _ | exact .str _ | exact .bl _ | exact .non | exact .tup (by assumption) | exact .lst (by assumption))) (kit_ty (by decide +kernel)) ?_ | refine rd_isi (b := false) (.ty _) (.base (by first | exact .int _ | exact .str _ | exact .bl _ | exact .non | exact .tup (by assumption) | exact .lst (by assumption))) (kit_ty (by decide +kernel)) ?_)
  | with_reducible refine rd_fld ?_
  | with_reducible refine rd_sfld ?_
  | with_reducible refine rd_meth ?_
  | with_reducible refine rd_make ?_
  | with_reducible refine rd_makeK ?_
  | with_reducible refine rd_U ?_
  | with_reducible refine rd_makeKS ?_
  | with_reducible refine rd_callN ?_
  | with_reducible refine rd_rs ?_
  | with_reducible refine rd_rf ?_
  | with_reducible refine rd_star ?_
  | with_reducible refine rd_callS ?_
  | with_reducible refine rd_for ?_
  | with_reducible refine rd_lc ?_
  | with_reducible refine rd_ilist ?_
  | with_reducible refine rd_itup ?_
  | with_reducible refine rd_irng ?_
  | with_reducible refine rd_izipS ?_
  | with_reducible refine rd_ienum ?_
  | with_reducible refine rd_ienT ?_
  | with_reducible refine rd_next ?_
  | with_reducible refine rd_eq rfl ?_
  | with_reducible refine rd_ne rfl ?_
  | with_reducible refine iteT ?_
  | with_reducible refine iteF ?_
  | with_reducible refine rd_ifnT ?_
  | with_reducible refine rd_ifnF ?_
  | ((with_reducible show rI (fun _ j => (0 : Int) < j) _ _ _ _ _); refine rd_mod (by omega) ?_)
  | with_reducible refine rd_new rfl ?_
  | ((with_reducible show rIxL _ _ (V.int 0) _ _); refine rd_ixL0 (by first | assumption | exact upd_same) ?_)
  | ((with_reducible show rIxL _ _ _ _ _); refine rd_ixL (by first | assumption | exact upd_same) rfl ?_)
  | ((with_reducible show rSetL _ _ _ _ _); refine rd_setL (by first | assumption | exact upd_same) rfl ?_)
  | ((with_reducible show rI CMul _ _ _ _ _); refine rd_mul (by first | exact Or.inl ⟨by omega, by omega⟩ | exact Or.inr ⟨by omega, by omega⟩) ?_)
  | ((with_reducible show tyV _ "list" _ _ ∧ _); refine rd_tyL (by first | assumption | exact upd_same) ?_)
  | ((with_reducible show rIxT _ _ (V.int 0) _ _); refine rd_ixT0 (by first | assumption | exact upd_same) ?_)
  | ((with_reducible show rIxT _ _ _ _ _); refine rd_ixT (by first | assumption | exact upd_same) rfl ?_))
local macro_rules | `(tactic| walk_at "rdn1") => `(tactic| first
  | with_reducible refine rd_seq ?_
  | with_reducible refine rd_asg ?_
  | ((with_reducible show tVar _ _ _ _); refine rd_var rfl ?_)
  | with_reducible refine rd_c ?_
  | with_reducible refine rd_op ?_
  | with_reducible refine rd_I0 ?_
  | with_reducible refine rd_name ?_
  | with_reducible refine rd_ret ?_
  | with_reducible refine rd_ifs ?_
  | with_reducible refine rd_test ?_
  | with_reducible refine rd_tB ?_
  | with_reducible refine rd_bl ?_
  | with_reducible refine rd_drop ?_
  | with_reducible refine rd_nil ?_
  | with_reducible refine rd_cons ?_
  | with_reducible refine rd_call ?_
  | with_reducible refine rd_cb ?_
  | with_reducible refine rd_tup ?_
  | with_reducible refine rd_lst ?_
  | with_reducible refine rd_and ?_
  | with_reducible refine rd_or ?_
  | with_reducible refine rd_not ?_
  | with_reducible refine rd_notV ?_
  | with_reducible refine rd_chain ?_
  | with_reducible refine rd_un ?_
  | with_reducible refine rd_isN ?_
  | with_reducible refine rd_bm ?_
  | with_reducible refine rd_bm0 ?_
  | with_reducible refine rd_gsub ?_
  | with_reducible refine rd_sl ?_
  | with_reducible refine rd_gt ?_
  | with_reducible refine rd_yes ?_
  | with_reducible refine rd_gcons ?_
  | with_reducible refine rd_gnil ?_
  | with_reducible refine rd_part ?_
  | with_reducible refine rd_nopart ?_
  | ((with_reducible show gTup _ _ _ _ _ _ _); refine rd_gtup (by first | assumption | exact upd_same) rfl ?_)
  | ((with_reducible show gLst _ _ _ _ _ _ _); refine rd_glst (by first | assumption | exact upd_same) rfl ?_)
  | ((with_reducible show rIsi _ _ _ _); first | refine rd_isi (b := true) (.ty _) (.base (by first | exact .int _ | exact .str _ | exact .bl _ | exact .non | exact .tup (by assumption) | exact .lst (by assumption))) (kit_ty (by decide +kernel)) ?_ | refine rd_isi (b := false) (.ty _) (.base (by first | exact .int _ | exact .str _ | exact .bl _ | exact .non | exact .tup (by assumption) | exact .lst (by assumption))) (kit_ty (by decide +kernel)) ?_)
  | with_reducible refine rd_fld ?_
  | with_reducible refine rd_sfld ?_
  | with_reducible refine rd_meth ?_
  | with_reducible refine rd_make ?_
  | with_reducible refine rd_makeK ?_
  | with_reducible refine rd_U ?_
  | with_reducible refine rd_makeKS ?_
  | with_reducible refine rd_callN ?_
  | with_reducible refine rd_rs ?_
  | with_reducible refine rd_rf ?_
  | with_reducible refine rd_star ?_
  | with_reducible refine rd_callS ?_
  | with_reducible refine rd_for ?_
  | with_reducible refine rd_lc ?_
  | with_reducible refine rd_ilist ?_
  | with_reducible refine rd_itup ?_
  | with_reducible refine rd_irng ?_
  | with_reducible refine rd_izipS ?_
  | with_reducible refine rd_ienum ?_
  | with_reducible refine rd_ienT ?_
  | with_reducible refine rd_next ?_
  | with_reducible refine rd_eq rfl ?_
  | with_reducible refine rd_ne rfl ?_
  | with_reducible refine iteT ?_
  | with_reducible refine iteF ?_
  | with_reducible refine rd_ifnT ?_
  | with_reducible refine rd_ifnF ?_
  | ((with_reducible show rI (fun _ j => (0 : Int) < j) _ _ _ _ _); refine rd_mod (by omega) ?_)
  | with_reducible refine rd_new rfl ?_
  | ((with_reducible show rIxL _ _ (V.int 0) _ _); refine rd_ixL0 (by first | assumption | exact upd_same) ?_)
  | ((with_reducible show rIxL _ _ _ _ _); refine rd_ixL (by first | assumption | exact upd_same) rfl ?_)
  | ((with_reducible show rSetL _ _ _ _ _); refine rd_setL (by first | assumption | exact upd_same) rfl ?_)
  | ((with_reducible show rI CMul _ _ _ _ _); refine rd_mul (by first | exact Or.inl ⟨by omega, by omega⟩ | exact Or.inr ⟨by omega, by omega⟩) ?_)
  | ((with_reducible show tyV _ "list" _ _ ∧ _); refine rd_tyL (by first | assumption | exact upd_same) ?_)
  | ((with_reducible show rIxT _ _ (V.int 0) _ _); refine rd_ixT0 (by first | assumption | exact upd_same) ?_)
  | ((with_reducible show rIxT _ _ _ _ _); refine rd_ixT (by first | assumption | exact upd_same) rfl ?_))
local macro_rules | `(tactic| walk_at "rd") => `(tactic| (repeat (first | walk_at "rd1" | dsimp only)))
local macro_rules | `(tactic| walk_at "rds") => `(tactic| (dsimp only [cxOf, Cx.nox, Cx.wish, Cx.blk, L2.start]; walk_at "rd"))
local macro_rules | `(tactic| walk_at "rdn") => `(tactic| (repeat (first | walk_at "rdn1" | dsimp only)))
section
variable {P : Program} {w : World} {K : PySem.W.Frag} {mg : Str → Option Value} {base : Heap}
def spLaw (K : PySem.W.Frag) : Sp := fun vs H Q _ => ∃ (a : Addr) (ns : List Int), vs = [.ref a] ∧ SqL K H a (ns.map V.int) ∧ ns.length ≤ 63 ∧ ∀ H', Q (.bl true) H'
theorem use_init {C x dx L : Addr} {us : List V} {xs : List Sg} {b : Int} {H : Hp} {Q : VK} {E : XK} (n1 : H x = none) (n2 : H dx = none) (ne : dx ≠ x) (hL : H L = some (.lst us)) (r : RpAll H us (xs.map Sg.d)) (l1 : 1 ≤ xs.length) (hl : xs.length ≤ 8) (b2 : 2 ≤ b) (hs : ∀ x ∈ xs, SgForm x ∧ sgFits x b xs.length = true)
    (h : ∀ H', MAt C H' x us b → Same H H' → Q .non H') : spInit C [.ref x, .ref L, .int b] (upd (upd H dx (.own x)) x (.ins C dx [])) Q E := by
  have n1' : upd H dx (.own x) x = none := by rw [upd_ne (Ne.symm ne)]; exact n1
  have s1 : Same H (upd (upd H dx (.own x)) x (.ins C dx [])) := (same_upd n2).trans (same_upd n1')
  refine ⟨x, dx, L, us, xs, b, rfl, upd_same, s1 _ _ hL, r.keep (Tk.of s1), l1, hl, b2, hs, fun H' m kp => h H' m fun c o e => ?_⟩
  exact kp c o (s1 c o e) (ne_of_none e n1)

theorem u65L {k : Nat} {A : Around} (r : Room k A) : A.units + 65 < cLine := by have := r.un; omega
def rInDT (K : PySem.W.Frag) : R2 := fun x y H Q => ∃ d ds, Dp K H x d ∧ Dp K H y (.tuple ds) ∧ SeqAt.shaped d = true ∧ SeqAt.shaped (.tuple ds) = true ∧ Q (.bl (ds.any fun z => PyData.eqv z d)) H
theorem op_inDT {X : Cx} (hu : X.A.units + 65 < cLine) : OpR X (compareOp .In) (rInDT X.K) := by
  intro pins s σ H x y v u Q I rx ry h
  obtain ⟨d, ds, hd, he, sd, se, q⟩ := h
  obtain ⟨as, r1⟩ := Dp.reads I d x v hd rx
  obtain ⟨bs, r2⟩ := Dp.reads I (.tuple ds) y u he ry
  exact SeqAt.in_tuple_reads r2 r1 (SeqAt.canLay_of_shaped se) (SeqAt.canLay_of_shaped sd) (by have := SeqAt.depth_of_shaped sd; omega) ⟨.bl _, H, I, rfl, q⟩
theorem ch_ok {c : List Int × Str} (h : c.1 ∈ allB ∧ c.2 ∈ rightsO) : (chD c).canLay0 = true ∧ okN 3 (chD c) := by
  obtain ⟨x, y, z, ez, _⟩ := mem_allB h.1
  obtain ⟨h1, h2⟩ := tri_lay c.1 (by rw [ez]; show 3 ≤ 1000; decide)
  refine ⟨?_, ⟨by show 2 ≤ 1000000; decide, fun u hu => ?_⟩⟩
  · unfold chD
    rw [PyData.canLay0, PyData.canLayAll0, h1, ri_lay _ h.2]
    rfl
  · simp only [List.mem_cons, List.not_mem_nil, or_false] at hu
    rcases hu with rfl | rfl
    · exact h2
    · trivial
theorem opt_ok {c : Option (List Int × Str)} (h : ∀ x, c = some x → x.1 ∈ allB ∧ x.2 ∈ rightsO) : (optD c).canLay0 = true ∧ okN 3 (optD c) := by
  cases c with
  | none => exact ⟨rfl, trivial⟩
  | some x => exact ch_ok (h x rfl)
theorem opt_shaped {c : Option (List Int × Str)} (h : ∀ x, c = some x → x.1 ∈ allB ∧ x.2 ∈ rightsO) : SeqAt.shaped (optD c) = true := shaped_of (opt_ok h).1 (opt_ok h).2 (by decide)
theorem opt_tup {c : Option (List Int × Str)} (h : ∀ x, c = some x → x.1 ∈ allB ∧ x.2 ∈ rightsO) : SeqAt.shaped (.tuple [.none, optD c]) = true := by
  obtain ⟨h1, h2⟩ := opt_ok h
  refine shaped_of (j := 4) ?_ ⟨by show 2 ≤ 1000000; decide, fun u hu => ?_⟩ (by decide)
  · rw [PyData.canLay0, PyData.canLayAll0, PyData.canLayAll0, h1]
    rfl
  · simp only [List.mem_cons, List.not_mem_nil, or_false] at hu
    rcases hu with rfl | rfl
    · trivial
    · exact h2
theorem ok_law {f NR : Addr} {fd : FuncData} (B : BT mg) (F : Fun K "law" "law" s_law f fd) (C_law_bag : Cal P w K mg base "_law_bag" 1 ["script"] (spBagK K)) (C_law_lists : Cal P w K mg base "_law_lists" 2 ["bag"] spLists) (C_law_choices : Cal P w K mg base "_law_choices" 1 [] spChoices) (C_law_extra : Cal P w K mg base "_law_extra" 2 ["lists", "brackets", "rights"] spExtra)
    (C_bf : CalX P w K mg base "brackets_for" 5 ["reads", "writes", "runs", "calls"] (spBf NR)) (C_op : CalX P w K mg base "opening" 5 ["reads", "writes", "runs", "calls"] (spOp NR)) (CK_op : CalK P w K mg base (L2.CX P w) "opening" 5 ["reads", "writes", "runs", "calls"] ["calls", "runs", "writes", "reads"] (fun vs zs => vs ++ zs.reverse) (spOp NR)) : FnOk P w K mg base CX0 6 f fd ["script"] (spLaw K) := by
  refine F.ok sc_law (fun vs H Q E h => ?_) (fun cdv A outer s H vs Q E hr h => ?_)
  · obtain ⟨a, ns, rfl, _⟩ := h
    rfl
  · obtain ⟨ac, ns, rfl, hS, hl, kk⟩ := h
    refine ⟨_, (pss_cons (ps_set (i := 1) sc_law.nd rfl (Or.inl rfl) (pe_cal C_law_bag (hr.mono (by omega)) rfl (pa_cons (pv 0) pa_nil)))
 (pss_cons (ps_set (i := 2) sc_law.nd rfl (Or.inl rfl) (pe_cal C_law_lists (hr.mono (by omega)) rfl (pa_cons (pv 1) pa_nil)))
 (pss_cons (ps_asg (pe_tup (pa_cons pe_non (pa_cons pe_int pa_nil))) (pg_tup (by rfl) (pgs_cons (pg_name (i := 3) sc_law.nd rfl (Or.inl rfl)) (pgs_cons (pg_name (i := 4) sc_law.nd rfl (Or.inl rfl)) pgs_nil))))
 (pss_cons (ps_for PassesOwn.never rfl (pi_listK (K := K) (pe_cal0 C_law_choices (hr.mono (by omega)) rfl)) (pg_tup (by rfl) (pgs_cons (pg_name (i := 5) sc_law.nd rfl (Or.inl rfl)) (pgs_cons (pg_name (i := 6) sc_law.nd rfl (Or.inl rfl)) pgs_nil)))
 (pss_cons (ps_asg (pe_cal C_law_extra (hr.mono (by omega)) rfl (pa_cons (pv 2) (pa_cons (pv 5) (pa_cons (pv 6) pa_nil)))) (pg_tup (by rfl) (pgs_cons (pg_name (i := 7) sc_law.nd rfl (Or.inl rfl)) (pgs_cons (pg_name (i := 8) sc_law.nd rfl (Or.inl rfl)) pgs_nil))))
 (pss_one (ps_if (PW.pt (pw_and (pt_not (pt_val (pv 8))) (pw_and1 (pt_cmpR op_lt (pv 7) (pv 4) (nomark _))))) (pss_one (ps_par (i := 3) (j := 4) (by rfl) sc_law.nd rfl rfl (by decide) rfl rfl (pa_cons (pe_tup (pa_cons (pv 5) (pa_cons (pv 6) pa_nil))) (pa_cons (pv 7) pa_nil)) (by rfl))) pss_nil))))
 (pss_cons (ps_setLc (i := 9) (own := [("one", 12)]) (g := gName 12) (tt := tYes) rfl sc_law.nd rfl rfl (sw_true rfl rfl rfl (by decide +kernel)) (pi_listK (K := K) (pv 2)) (blkOk_by (own := [("one", 12)]) (N := ["script", "bag", "lists", "due", "fewest", "brackets", "rights", "beyond", "lacks", "handed", "found", "just", "one"]) (sc := defScope s_law) (by decide +kernel)) (fun _ _ _ _ _ => (pg_name (i := 12) sc_law.nd rfl (by first | exact Or.inl rfl | exact Or.inr rfl))) (fun _ _ _ _ _ => pts_nil) (fun _ _ _ _ _ => (pe_callTy (cr_listOf (K := K)) rfl B.g_list (by decide +kernel) (pa_cons (pv 12) pa_nil))))
 (pss_cons (ps_set (i := 10) sc_law.nd rfl (Or.inl rfl) (pe_calN C_op (hr.mono (by omega)) rfl (pa_cons (pe_ix (r := rIxL K) ix_list (pv 9) pe_int (fun _ _ => rfl)) (pa_cons (pe_ix (r := rIxL K) ix_list (pv 9) pe_int (fun _ _ => rfl)) (pa_cons (pe_ix (r := rIxL K) ix_list (pv 9) pe_int (fun _ _ => rfl)) (pa_cons (pe_ix (r := rIxL K) ix_list (pv 9) pe_int (fun _ _ => rfl)) pa_nil))))))
 (pss_cons (ps_if (PW.pt (pw_or (pt_cmpR (r := rNeD K) (op_neD hr.units) (pv 10) (pv 3) (nomark _)) (pw_or1 (pt_cmpR (r := rNeD K) (op_neD hr.units) (pv 9) (pv 2) (nomark _))))) (pss_one (ps_ret pe_bl)) pss_nil)
 (pss_cons (ps_if (pt_cmpR (r := rNeD K) (op_neD hr.units) (pe_calK0 (E := E0) CK_op (hr.mono (by omega)) rfl pass1 (pk_cons (pe_ix (r := rIxL K) ix_list (pv 9) pe_int (fun _ _ => rfl)) (pk_cons (pe_ix (r := rIxL K) ix_list (pv 9) pe_int (fun _ _ => rfl)) (pk_cons (pe_ix (r := rIxL K) ix_list (pv 9) pe_int (fun _ _ => rfl)) (pk_cons (pe_ix (r := rIxL K) ix_list (pv 9) pe_int (fun _ _ => rfl)) pk_nil))))) (pv 3) (nomark _)) (pss_one (ps_ret pe_bl)) pss_nil)
 (pss_cons (ps_set (i := 11) sc_law.nd rfl (Or.inl rfl) (pe_calN C_bf (hr.mono (by omega)) rfl (pa_cons (pe_ix (r := rIxL K) ix_list (pv 9) pe_int (fun _ _ => rfl)) (pa_cons (pe_ix (r := rIxL K) ix_list (pv 9) pe_int (fun _ _ => rfl)) (pa_cons (pe_ix (r := rIxL K) ix_list (pv 9) pe_int (fun _ _ => rfl)) (pa_cons (pe_ix (r := rIxL K) ix_list (pv 9) pe_int (fun _ _ => rfl)) pa_nil))))))
 (pss_one (ps_ret (pe_and (pe_cmpR op_eq (pe_cmpR op_isN (pv 11) pe_non (nomark _)) (pe_cmpR op_gt (pv 4) pe_int (nomark _)) (nomark _)) (pe_one (pe_cmpR (r := rInDT K) (op_inDT (u65L hr)) (pv 11) (pe_tup (pa_cons pe_non (pa_cons (pv 3) pa_nil))) (by rfl))))))))))))))), ?_⟩
    walk_at "rds"
    refine ⟨ac, ns, rfl, hS, hl, fun t g H1 s1 nt ng T1 => ?_⟩
    walk_at "rd"
    refine ⟨t, g, _, rfl, T1, by decide, fun L a b c d as bs cs ds H2 hL4 hR => ?_⟩
    walk_at "rd"
    intro tp htp
    have stp := same_upd (o := .tup [.non, .int 100]) htp
    replace hL4 := hL4.same stp
    have ttp : upd H2 tp (.tup [.non, .int 100]) tp = some (.tup [.non, .int 100]) := upd_same
    generalize upd H2 tp (.tup [.non, .int 100]) = H2' at hL4 ttp
    walk_at "rd"
    refine ⟨rfl, fun CL us H3 nCL hCL rus s3 => ?_⟩
    walk_at "rd"
    refine ⟨CL, rfl, ⟨_, SqL.of hCL⟩, ?_⟩
    have lus : us.length = 960 := by rw [rus.length, List.length_map]; decide +kernel
    have hL3 := hL4.same s3
    refine for_inv (walk_list (xs := us)) (fun i σ' H' => (∃ dv c5 c6 c7 c8, σ' = [some (.ref ac), some (.ref t), some (.ref L), some dv, some (.int (((choices.take i).foldl (stepL as bs cs ds) (none, 100)).2 : Nat)), c5, c6, c7, c8, none, none, none, none] ∧ Rp H' dv (optD ((choices.take i).foldl (stepL as bs cs ds) (none, 100)).1)) ∧ Same H3 H') ⟨⟨_, _, _, _, _, rfl, .non⟩, Same.refl _⟩ (fun i σ' H' _ p => SqL.of (p.2 _ _ hCL)) ?_ ?_
    · rintro B' i y σ1 Ha Hb hi ⟨⟨dv, c5, c6, c7, c8, rfl, rdv⟩, sa⟩ ⟨rfl, hy⟩
      obtain ⟨dt, hdt, ry⟩ := rus.get hy
      rw [List.getElem?_map] at hdt
      obtain ⟨c, hc, rfl⟩ := Option.map_eq_some_iff.mp hdt
      replace ry := ry.keep (Tk.of sa)
      have hcm := List.mem_of_getElem? hc
      obtain ⟨l, hl0, hcm⟩ := List.mem_flatMap.mp hcm
      obtain ⟨ri, hri, rfl⟩ := List.mem_map.mp hcm
      obtain ⟨r1, r2, r3, rfl, _⟩ := mem_allB hl0
      obtain ⟨pc, vc, rfl, hpc, rvc⟩ := id ry.tup_inv
      obtain ⟨v0, vr, rfl, rv0, rvr⟩ := rvc.cons_inv
      obtain ⟨v1, vr, rfl, rv1, rvr⟩ := rvr.cons_inv
      have e := rvr.nil_inv; subst e
      have e1 := rv1.str_inv; subst e1
      obtain ⟨pb, vb, rfl, hpb, _⟩ := id rv0.tup_inv
      have etk : (choices.take (i + 1)).foldl (stepL as bs cs ds) (none, 100) = stepL as bs cs ds ((choices.take i).foldl (stepL as bs cs ds) (none, 100)) ([r1, r2, r3], ri) := by
        rw [take_snoc hc, List.foldl_append]
        rfl
      rw [etk]
      generalize (choices.take i).foldl (stepL as bs cs ds) (none, 100) = st at rdv
      walk_at "rd"
      refine ⟨L, pb, _, _, _, _, as, bs, cs, ds, r1, r2, r3, ri, rfl, (hL3.same sa).l, (hL3.same sa).x, rv0, fun q H5 hq s5 => ?_⟩
      have s05 := sa.trans s5
      have est : stepL as bs cs ds st ([r1, r2, r3], ri) = if (!lacB (at4 as bs cs ds) (sgO [r1, r2, r3] ri) cells8 && decide (beyN (at4 as bs cs ds) (sgO [r1, r2, r3] ri) cells8 < st.2)) = true then (some ([r1, r2, r3], ri), beyN (at4 as bs cs ds) (sgO [r1, r2, r3] ri) cells8) else st := rfl
      rw [est]
      generalize beyN (at4 as bs cs ds) (sgO [r1, r2, r3] ri) cells8 = by0 at hq
      generalize lacB (at4 as bs cs ds) (sgO [r1, r2, r3] ri) cells8 = la0 at hq
      walk_at "rd"
      refine rd_ifn (fun hla => ?_) (fun hla => ?_)
      · subst hla
        refine rd_ifbF rfl ?_
        walk_at "rd"
        exact ⟨⟨_, _, _, _, _, rfl, rdv.keep (Tk.of s5)⟩, s05⟩
      · subst hla
        walk_at "rd"
        refine rd_ifd (fun hb => ?_) (fun hb => ?_)
        · have hb' : by0 < st.2 := by omega
          rw [if_pos (by simp [hb'])]
          walk_at "rd"
          refine rd_par ?_
          walk_at "rd"
          intro q1 hq1
          walk_at "rd"
          refine ⟨_, _, rfl, ?_⟩
          refine ⟨⟨_, _, _, _, _, rfl, ?_⟩, s05.trans (same_upd hq1)⟩
          exact .tup upd_same (.cons (rv0.keep (Tk.of (s5.trans (same_upd hq1)))) (.cons (.str _) .nil))
        · have hb' : ¬ by0 < st.2 := by omega
          rw [if_neg (by simp [hb'])]
          walk_at "rd"
          exact ⟨⟨_, _, _, _, _, rfl, rdv.keep (Tk.of s5)⟩, s05⟩
    · rintro σ1 Ha ⟨⟨dv, c5, c6, c7, c8, rfl, rdv⟩, sa⟩
      rw [List.take_of_length_le (by rw [lus]; decide +kernel)] at rdv ⊢
      generalize hst : choices.foldl (stepL as bs cs ds) (none, 100) = st at rdv
      obtain ⟨eop, ezero, enz⟩ := due_op hR hst
      rw [← eop] at rdv
      have hLa := hL3.same sa
      walk_at "rd"
      refine ⟨L, rfl, ⟨_, SqL.of hLa.l⟩, fun D hD => ?_⟩
      have nDL := ne_of_none hLa.l hD
      refine lc_it (walk_list (xs := [V.ref a, .ref b, .ref c, .ref d])) (fun i H' => ∃ rows : List (Addr × List Int), H' D = some (.lst (rows.map fun r => V.ref r.1)) ∧ rows.map (·.2) = ([as, bs, cs, ds] : List (List Int)).take i ∧ (∀ x ∈ rows, H' x.1 = some (.lst (x.2.map V.int)) ∧ x.1 ≠ D) ∧ Same Ha H') ⟨[], upd_same, rfl, fun x hx => (nomatch hx), same_upd hD⟩ (fun i H' _ p => by obtain ⟨_, _, _, _, p⟩ := p; exact SqL.of (p _ _ hLa.l)) ?_ ?_
      · rintro i y Hb Hc hi ⟨rows, hrw, e2, hr2, sb⟩ ⟨rfl, hy⟩
        have hi4 : i < 4 := hi
        have Lb := hLa.same sb
        have hz : ∃ (q : Addr) (zs : List Int), y = .ref q ∧ Hc q = some (.lst (zs.map V.int)) ∧ ([as, bs, cs, ds] : List (List Int))[i]? = some zs := by
          revert hy
          match i, hi4 with
          | 0, _ => exact fun hy => ⟨a, as, by simpa using hy.symm, Lb.x.a, rfl⟩
          | 1, _ => exact fun hy => ⟨b, bs, by simpa using hy.symm, Lb.x.b, rfl⟩
          | 2, _ => exact fun hy => ⟨c, cs, by simpa using hy.symm, Lb.x.c, rfl⟩
          | 3, _ => exact fun hy => ⟨d, ds, by simpa using hy.symm, Lb.x.d, rfl⟩
        obtain ⟨q, zs, rfl, hq, hzs⟩ := hz
        walk_at "rd"
        refine ⟨rfl, ?_⟩
        walk_at "rd"
        refine ⟨q, _, rfl, .inl (SqL.of hq), fun l hl1 => ?_⟩
        have s1 := same_upd (o := .lst (zs.map V.int)) hl1
        have e1 : upd Hc l (.lst (zs.map V.int)) l = some (.lst (zs.map V.int)) := upd_same
        generalize upd Hc l (.lst (zs.map V.int)) = Hd at s1 e1
        have hlr : rows.length = i := by
          have := congrArg List.length e2
          rw [List.length_map, List.length_take] at this
          simp at this
          omega
        have hD1 := s1 _ _ hrw
        have nl : l ≠ D := Ne.symm (ne_of_none hrw hl1)
        refine ⟨_, hD1, small1000 (by rw [List.length_map, hlr]; omega), rows ++ [(l, zs)], by rw [upd_same, List.map_append]; rfl, by rw [List.map_append, e2, take_snoc hzs]; rfl, fun x hx => ?_, fun c o e => by rw [upd_ne (ne_of_none e hD)]; exact s1 _ _ (sb _ _ e)⟩
        rcases List.mem_append.mp hx with h | h
        · obtain ⟨c1, c2⟩ := hr2 x h
          exact ⟨by rw [upd_ne c2]; exact s1 _ _ c1, c2⟩
        · rw [List.mem_singleton.mp h]
          exact ⟨by rw [upd_ne nl]; exact e1, nl⟩
      · rintro Hb ⟨rows, hrw, e2, hr2, sb⟩
        have hh : ∃ a' b' c' d', Li4 Hb D a' b' c' d' as bs cs ds := by
          have e3 : rows.map (·.2) = [as, bs, cs, ds] := e2
          match rows, e3 with
          | [(a', z1), (b', z2), (c', z3), (d', z4)], e3 =>
            cases e3
            exact ⟨a', b', c', d', hrw, (hr2 (a', z1) (by simp)).1, (hr2 (b', z2) (by simp)).1, (hr2 (c', z3) (by simp)).1, (hr2 (d', z4) (by simp)).1⟩
        obtain ⟨a', b', c', d', hD4⟩ := hh
        have hmem : ∀ z ∈ as ++ bs ++ cs ++ ds, 0 ≤ z ∧ z < 8 := fun z hz => by
          simp only [List.mem_append] at hz
          rcases hz with ((h | h) | h) | h
          · exact (hR as (by simp)).2 z h
          · exact (hR bs (by simp)).2 z h
          · exact (hR cs (by simp)).2 z h
          · exact (hR ds (by simp)).2 z h
        have hbig : ∀ z ∈ as ++ bs ++ cs ++ ds, z.natAbs.log2 < 1920 := fun z hz => by
          have := hmem z hz
          have : z.natAbs < 2 ^ 10 := by omega
          exact Nat.lt_of_lt_of_le (PySem.Flt.log2_lt_of (by decide) this) (by decide)
        have nE : ∀ (E : XK) (H' : Hp), NoRE NR (as ++ bs ++ cs ++ ds) E H' := fun E H' pre z post e _ hb => by
          have hz := hmem z (by rw [e]; simp)
          rw [below_of hz.1 hz.2] at hb
          cases hb
        have rdb := rdv.keep (Tk.of sb)
        have hopm : ∀ c, (opM as bs cs ds).map (fun l => (l, rgtS as bs cs ds)) = some c → c.1 ∈ allB ∧ c.2 ∈ rightsO := fun c hc => by
          obtain ⟨l, hm, rfl⟩ := Option.map_eq_some_iff.mp hc
          refine ⟨?_, rgt_mem as bs cs ds⟩
          show l ∈ allB
          unfold opM at hm
          have hs : ∀ x ∈ allB.filter (letsB as bs cs ds (rgtS as bs cs ds)), x ∈ allB := fun x hx => (List.mem_filter.mp hx).1
          have hp := allB_sorted.filter (letsB as bs cs ds (rgtS as bs cs ds))
          generalize allB.filter (letsB as bs cs ds (rgtS as bs cs ds)) = fl at hm hs hp
          cases fl with
          | nil => cases hm
          | cons x xs =>
            cases hm
            have hp' := List.pairwise_cons.mp hp
            exact hs _ (min_pr (manyN (rgtS as bs cs ds)) xs x (hs x (by simp)) (fun y hy => hs y (by simp [hy])) (fun y hy => (hp'.1 y hy).2) hp'.2).2
        have osh : SeqAt.shaped (opD as bs cs ds) = true := opt_shaped hopm
        have ole : PyData.eqv (opD as bs cs ds) (opD as bs cs ds) = true := SeqAt.eqv_refl _ (SeqAt.canLay_of_shaped osh)
        have bsh := bf_shaped hR
        walk_at "rd"
        refine rd_ixL hD4.l rfl ?_
        walk_at "rd"
        refine rd_ixL hD4.l rfl ?_
        walk_at "rd"
        refine rd_ixL hD4.l rfl ?_
        walk_at "rd"
        refine rd_ixL hD4.l rfl ?_
        walk_at "rd"
        refine ⟨a', b', c', d', as, bs, cs, ds, rfl, hD4.x, hbig, fun _ v Hc rv sc => ?_, nE _ _⟩
        walk_at "rd"
        refine rd_neD rv.dp (rdb.keep (Tk.of sc)).dp osh osh ?_
        rw [ole]
        walk_at "rd"
        have hDc := hD4.same sc
        have hLc := (hLa.same sb).same sc
        have shL : SeqAt.shaped (.list [.list (as.map .int), .list (bs.map .int), .list (cs.map .int), .list (ds.map .int)]) = true := by
          have l4 : ∀ zs ∈ ([as, bs, cs, ds] : List (List Int)), zs.length ≤ 1000 := fun zs hz => Nat.le_trans (hR zs hz).1 (by decide)
          exact shaped_of (j := 3) (lay_map (f := fun zs : List Int => PyData.list (zs.map .int)) [as, bs, cs, ds] fun zs _ => lay_map zs fun _ _ => rfl) (okN_mapL (f := fun zs : List Int => PyData.list (zs.map .int)) (xs := [as, bs, cs, ds]) (by show 4 ≤ 1000; decide) fun zs hz => okN_mapL (l4 zs hz) fun _ _ => trivial) (by decide)
        have dL : ∀ {H' : Hp} {M m1 m2 m3 m4 : Addr}, Li4 H' M m1 m2 m3 m4 as bs cs ds → Dp K H' (.ref M) (.list [.list (as.map .int), .list (bs.map .int), .list (cs.map .int), .list (ds.map .int)]) := fun h =>
          .lst (SqL.of h.l) (.cons (.lst (SqL.of h.x.a) (RpAll.ints _).dp) (.cons (.lst (SqL.of h.x.b) (RpAll.ints _).dp) (.cons (.lst (SqL.of h.x.c) (RpAll.ints _).dp) (.cons (.lst (SqL.of h.x.d) (RpAll.ints _).dp) .nil))))
        refine rd_neD (dL hDc) (dL hLc) shL shL ?_
        rw [SeqAt.eqv_refl _ (SeqAt.canLay_of_shaped shL)]
        walk_at "rd"
        refine rd_ixL hDc.l rfl ?_
        walk_at "rd"
        refine rd_ixL hDc.l rfl ?_
        walk_at "rd"
        refine rd_ixL hDc.l rfl ?_
        walk_at "rd"
        refine rd_ixL hDc.l rfl ?_
        walk_at "rd"
        refine ⟨rfl, rfl, ?_⟩
        refine ⟨a', b', c', d', as, bs, cs, ds, rfl, hDc.x, hbig, fun _ v2 Hd rv2 sd => ?_, nE _ _⟩
        walk_at "rd"
        refine rd_neD rv2.dp (rdb.keep (Tk.of (sc.trans sd))).dp osh osh ?_
        rw [ole]
        walk_at "rd"
        have hDd := hDc.same sd
        refine rd_ixL hDd.l rfl ?_
        walk_at "rd"
        refine rd_ixL hDd.l rfl ?_
        walk_at "rd"
        refine rd_ixL hDd.l rfl ?_
        walk_at "rd"
        refine rd_ixL hDd.l rfl ?_
        walk_at "rd"
        refine ⟨a', b', c', d', as, bs, cs, ds, rfl, hDd.x, hbig, fun _ v3 He rv3 se => ?_, nE _ _⟩
        walk_at "rd"
        refine ⟨rfl, ?_⟩
        walk_at "rd"
        have rde := rdb.keep (Tk.of ((sc.trans sd).trans se))
        by_cases hz : st.2 = 0
        · obtain ⟨c0, hc0, e1, e2⟩ := ezero hz
          rw [e2] at rv3 bsh
          rw [eop, e1] at rde osh
          obtain ⟨q3, w3, rfl, hq3, _⟩ := id (show Rp He v3 (chD c0) from rv3).tup_inv
          rw [decide_eq_false (show ¬ V.ref q3 = V.non from fun z => nomatch z), decide_eq_false (show ¬ (0 : Int) < (st.2 : Nat) by omega)]
          refine rd_ifT rfl ?_
          walk_at "rd"
          intro q4 hq4
          have s4 := same_upd (o := .tup [.non, dv]) hq4
          refine ⟨chD c0, [.none, chD c0], (rv3.keep (Tk.of s4)).dp, .tup (SqT.of upd_same) (.cons .non (.cons (rde.keep (Tk.of s4)).dp .nil)), bsh, ?_, ?_⟩
          · exact opt_tup (c := some c0) fun c hc => by
              cases hc
              exact mem_choices hc0
          · rw [List.any_cons, List.any_cons, List.any_nil, show PyData.eqv (chD c0) (chD c0) = true from SeqAt.eqv_refl _ (SeqAt.canLay_of_shaped bsh)]
            have : (PyData.eqv .none (chD c0) || (true || false)) = true := by simp
            rw [this]
            exact kk _
        · rw [enz hz] at rv3
          cases rv3
          rw [decide_eq_true (show V.non = V.non from rfl), decide_eq_true (show (0 : Int) < (st.2 : Nat) by omega)]
          refine rd_ifT rfl ?_
          walk_at "rd"
          intro q4 hq4
          have s4 := same_upd (o := .tup [.non, dv]) hq4
          refine ⟨.none, [.none, opD as bs cs ds], .non, .tup (SqT.of upd_same) (.cons .non (.cons (rde.keep (Tk.of s4)).dp .nil)), rfl, ?_, ?_⟩
          · exact opt_tup hopm
          · rw [List.any_cons]
            have : PyData.eqv .none .none = true := rfl
            rw [this]
            exact kk _

end
end Rg

namespace Rg
open PySem PySem.Spec L2
theorem all_mk {l : PySem.W.OpenLaw} {w : World} {K : PySem.W.Frag} {h : Heap} {mg : Str → Option Value} {fa : Addr} (X : K.In h) (G : h.Ns mainGlobals mg) (hfa : mg "law" = some (.ref fa))
    {f1 : Addr} {od1 an1 : Option Addr} {sl1 : Array (Option Value)} {oc1 kV1 dc1 pm1 cd1 ct1 : Value}
    {f2 : Addr} {od2 an2 : Option Addr} {sl2 : Array (Option Value)} {oc2 kV2 dc2 pm2 cd2 ct2 : Value}
    {f3 : Addr} {od3 an3 : Option Addr} {sl3 : Array (Option Value)} {oc3 kV3 dc3 pm3 cd3 ct3 : Value}
    {f4 : Addr} {od4 an4 : Option Addr} {sl4 : Array (Option Value)} {oc4 kV4 dc4 pm4 cd4 ct4 : Value}
    {f5 : Addr} {od5 an5 : Option Addr} {sl5 : Array (Option Value)} {oc5 kV5 dc5 pm5 cd5 ct5 : Value}
    {f6 : Addr} {od6 an6 : Option Addr} {sl6 : Array (Option Value)} {oc6 kV6 dc6 pm6 cd6 ct6 : Value}
    {f7 : Addr} {od7 an7 : Option Addr} {sl7 : Array (Option Value)} {oc7 kV7 dc7 pm7 cd7 ct7 : Value}
    {f8 : Addr} {od8 an8 : Option Addr} {sl8 : Array (Option Value)} {oc8 kV8 dc8 pm8 cd8 ct8 : Value}
    {f9 : Addr} {od9 an9 : Option Addr} {sl9 : Array (Option Value)} {oc9 kV9 dc9 pm9 cd9 ct9 : Value}
    {f10 : Addr} {od10 an10 : Option Addr} {sl10 : Array (Option Value)} {oc10 kV10 dc10 pm10 cd10 ct10 : Value}
    {f11 : Addr} {od11 an11 : Option Addr} {sl11 : Array (Option Value)} {oc11 kV11 dc11 pm11 cd11 ct11 : Value}
    {f12 : Addr} {od12 an12 : Option Addr} {sl12 : Array (Option Value)} {oc12 kV12 dc12 pm12 cd12 ct12 : Value}
    {f13 : Addr} {od13 an13 : Option Addr} {sl13 : Array (Option Value)} {oc13 kV13 dc13 pm13 cd13 ct13 : Value}
    {f14 : Addr} {od14 an14 : Option Addr} {sl14 : Array (Option Value)} {oc14 kV14 dc14 pm14 cd14 ct14 : Value}
    {f15 : Addr} {od15 an15 : Option Addr} {sl15 : Array (Option Value)} {oc15 kV15 dc15 pm15 cd15 ct15 : Value}
    {f16 : Addr} {od16 an16 : Option Addr} {sl16 : Array (Option Value)} {oc16 kV16 dc16 pm16 cd16 ct16 : Value}
    {f17 : Addr} {od17 an17 : Option Addr} {sl17 : Array (Option Value)} {oc17 kV17 dc17 pm17 cd17 ct17 : Value}
    {f18 : Addr} {od18 an18 : Option Addr} {sl18 : Array (Option Value)} {oc18 kV18 dc18 pm18 cd18 ct18 : Value}
    {f19 : Addr} {od19 an19 : Option Addr} {sl19 : Array (Option Value)} {oc19 kV19 dc19 pm19 cd19 ct19 : Value}
    {f20 : Addr} {od20 an20 : Option Addr} {sl20 : Array (Option Value)} {oc20 kV20 dc20 pm20 cd20 ct20 : Value}
    {f21 : Addr} {od21 an21 : Option Addr} {sl21 : Array (Option Value)} {oc21 kV21 dc21 pm21 cd21 ct21 : Value}
    {f22 : Addr} {od22 an22 : Option Addr} {sl22 : Array (Option Value)} {oc22 kV22 dc22 pm22 cd22 ct22 : Value}
    {f23 : Addr} {od23 an23 : Option Addr} {sl23 : Array (Option Value)} {oc23 kV23 dc23 pm23 cd23 ct23 : Value}
    {f24 : Addr} {od24 an24 : Option Addr} {sl24 : Array (Option Value)} {oc24 kV24 dc24 pm24 cd24 ct24 : Value}
    {t25 : Tok}
    {R0 : Addr} {mcR : Value}
    {f43 : Addr} {od43 an43 : Option Addr} {sl43 : Array (Option Value)} {oc43 kV43 dc43 pm43 cd43 ct43 : Value}
    {E_NoRing : Addr} {nm_NoRing q_NoRing : Str} {N_NoRing : Addr} {bs_NoRing : List Value} {sn_NoRing : _} {sub_NoRing : _} {ab_NoRing : _} {col_NoRing : _} {dd_NoRing : _} {k0_NoRing k1_NoRing k2_NoRing k3_NoRing k5_NoRing : _}
    {f44 : Addr} {od44 an44 : Option Addr} {sl44 : Array (Option Value)} {oc44 kV44 dc44 pm44 cd44 ct44 : Value}
    (a1 : PySem.W.nsIn K mainGlobals "is_whole" = some (some (.ref f1)))
    (l1 : K.lookup f1 = some ⟨oc1, od1, .func (PySem.W.fnOf "is_whole" "is_whole" (defArgs s_is_whole) (defBody s_is_whole) (defScope s_is_whole) .none kV1 dc1 pm1 an1 cd1 ct1), sl1⟩)
    (c1 : PySem.W.codeIn K cd1 "is_whole" = true)
    (k1 : PySem.W.keepIn K (.ref f1) = true)
    (a2 : PySem.W.nsIn K mainGlobals "is_below" = some (some (.ref f2)))
    (l2 : K.lookup f2 = some ⟨oc2, od2, .func (PySem.W.fnOf "is_below" "is_below" (defArgs s_is_below) (defBody s_is_below) (defScope s_is_below) .none kV2 dc2 pm2 an2 cd2 ct2), sl2⟩)
    (c2 : PySem.W.codeIn K cd2 "is_below" = true)
    (k2 : PySem.W.keepIn K (.ref f2) = true)
    (a3 : PySem.W.nsIn K mainGlobals "is_ring" = some (some (.ref f3)))
    (l3 : K.lookup f3 = some ⟨oc3, od3, .func (PySem.W.fnOf "is_ring" "is_ring" (defArgs s_is_ring) (defBody s_is_ring) (defScope s_is_ring) .none kV3 dc3 pm3 an3 cd3 ct3), sl3⟩)
    (c3 : PySem.W.codeIn K cd3 "is_ring" = true)
    (k3 : PySem.W.keepIn K (.ref f3) = true)
    (a4 : PySem.W.nsIn K mainGlobals "may_read" = some (some (.ref f4)))
    (l4 : K.lookup f4 = some ⟨oc4, od4, .func (PySem.W.fnOf "may_read" "may_read" (defArgs s_may_read) (defBody s_may_read) (defScope s_may_read) .none kV4 dc4 pm4 an4 cd4 ct4), sl4⟩)
    (c4 : PySem.W.codeIn K cd4 "may_read" = true)
    (k4 : PySem.W.keepIn K (.ref f4) = true)
    (a5 : PySem.W.nsIn K mainGlobals "may_write" = some (some (.ref f5)))
    (l5 : K.lookup f5 = some ⟨oc5, od5, .func (PySem.W.fnOf "may_write" "may_write" (defArgs s_may_write) (defBody s_may_write) (defScope s_may_write) .none kV5 dc5 pm5 an5 cd5 ct5), sl5⟩)
    (c5 : PySem.W.codeIn K cd5 "may_write" = true)
    (k5 : PySem.W.keepIn K (.ref f5) = true)
    (a6 : PySem.W.nsIn K mainGlobals "may_run" = some (some (.ref f6)))
    (l6 : K.lookup f6 = some ⟨oc6, od6, .func (PySem.W.fnOf "may_run" "may_run" (defArgs s_may_run) (defBody s_may_run) (defScope s_may_run) .none kV6 dc6 pm6 an6 cd6 ct6), sl6⟩)
    (c6 : PySem.W.codeIn K cd6 "may_run" = true)
    (k6 : PySem.W.keepIn K (.ref f6) = true)
    (a7 : PySem.W.nsIn K mainGlobals "may_call" = some (some (.ref f7)))
    (l7 : K.lookup f7 = some ⟨oc7, od7, .func (PySem.W.fnOf "may_call" "may_call" (defArgs s_may_call) (defBody s_may_call) (defScope s_may_call) .none kV7 dc7 pm7 an7 cd7 ct7), sl7⟩)
    (c7 : PySem.W.codeIn K cd7 "may_call" = true)
    (k7 : PySem.W.keepIn K (.ref f7) = true)
    (a8 : PySem.W.nsIn K mainGlobals "ways_in" = some (some (.ref f8)))
    (l8 : K.lookup f8 = some ⟨oc8, od8, .func (PySem.W.fnOf "ways_in" "ways_in" (defArgs s_ways_in) (defBody s_ways_in) (defScope s_ways_in) .none kV8 dc8 pm8 an8 cd8 ct8), sl8⟩)
    (c8 : PySem.W.codeIn K cd8 "ways_in" = true)
    (k8 : PySem.W.keepIn K (.ref f8) = true)
    (a9 : PySem.W.nsIn K mainGlobals "refuse_no_ring" = some (some (.ref f9)))
    (l9 : K.lookup f9 = some ⟨oc9, od9, .func (PySem.W.fnOf "refuse_no_ring" "refuse_no_ring" (defArgs s_refuse_no_ring) (defBody s_refuse_no_ring) (defScope s_refuse_no_ring) .none kV9 dc9 pm9 an9 cd9 ct9), sl9⟩)
    (c9 : PySem.W.codeIn K cd9 "refuse_no_ring" = true)
    (k9 : PySem.W.keepIn K (.ref f9) = true)
    (a10 : PySem.W.nsIn K mainGlobals "wished_ways" = some (some (.ref f10)))
    (l10 : K.lookup f10 = some ⟨oc10, od10, .func (PySem.W.fnOf "wished_ways" "wished_ways" (defArgs s_wished_ways) (defBody s_wished_ways) (defScope s_wished_ways) .none kV10 dc10 pm10 an10 cd10 ct10), sl10⟩)
    (c10 : PySem.W.codeIn K cd10 "wished_ways" = true)
    (k10 : PySem.W.keepIn K (.ref f10) = true)
    (a11 : PySem.W.nsIn K mainGlobals "given_ways" = some (some (.ref f11)))
    (l11 : K.lookup f11 = some ⟨oc11, od11, .func (PySem.W.fnOf "given_ways" "given_ways" (defArgs s_given_ways) (defBody s_given_ways) (defScope s_given_ways) .none kV11 dc11 pm11 an11 cd11 ct11), sl11⟩)
    (c11 : PySem.W.codeIn K cd11 "given_ways" = true)
    (k11 : PySem.W.keepIn K (.ref f11) = true)
    (a12 : PySem.W.nsIn K mainGlobals "rights_for" = some (some (.ref f12)))
    (l12 : K.lookup f12 = some ⟨oc12, od12, .func (PySem.W.fnOf "rights_for" "rights_for" (defArgs s_rights_for) (defBody s_rights_for) (defScope s_rights_for) .none kV12 dc12 pm12 an12 cd12 ct12), sl12⟩)
    (c12 : PySem.W.codeIn K cd12 "rights_for" = true)
    (k12 : PySem.W.keepIn K (.ref f12) = true)
    (a13 : PySem.W.nsIn K mainGlobals "all_brackets" = some (some (.ref f13)))
    (l13 : K.lookup f13 = some ⟨oc13, od13, .func (PySem.W.fnOf "all_brackets" "all_brackets" (defArgs s_all_brackets) (defBody s_all_brackets) (defScope s_all_brackets) .none kV13 dc13 pm13 an13 cd13 ct13), sl13⟩)
    (c13 : PySem.W.codeIn K cd13 "all_brackets" = true)
    (k13 : PySem.W.keepIn K (.ref f13) = true)
    (a14 : PySem.W.nsIn K mainGlobals "brackets_for" = some (some (.ref f14)))
    (l14 : K.lookup f14 = some ⟨oc14, od14, .func (PySem.W.fnOf "brackets_for" "brackets_for" (defArgs s_brackets_for) (defBody s_brackets_for) (defScope s_brackets_for) .none kV14 dc14 pm14 an14 cd14 ct14), sl14⟩)
    (c14 : PySem.W.codeIn K cd14 "brackets_for" = true)
    (k14 : PySem.W.keepIn K (.ref f14) = true)
    (a15 : PySem.W.nsIn K mainGlobals "opening" = some (some (.ref f15)))
    (l15 : K.lookup f15 = some ⟨oc15, od15, .func (PySem.W.fnOf "opening" "opening" (defArgs s_opening) (defBody s_opening) (defScope s_opening) .none kV15 dc15 pm15 an15 cd15 ct15), sl15⟩)
    (c15 : PySem.W.codeIn K cd15 "opening" = true)
    (k15 : PySem.W.keepIn K (.ref f15) = true)
    (a16 : PySem.W.nsIn K mainGlobals "lets_all" = some (some (.ref f16)))
    (l16 : K.lookup f16 = some ⟨oc16, od16, .func (PySem.W.fnOf "lets_all" "lets_all" (defArgs s_lets_all) (defBody s_lets_all) (defScope s_lets_all) .none kV16 dc16 pm16 an16 cd16 ct16), sl16⟩)
    (c16 : PySem.W.codeIn K cd16 "lets_all" = true)
    (k16 : PySem.W.keepIn K (.ref f16) = true)
    (a17 : PySem.W.nsIn K mainGlobals "how_many" = some (some (.ref f17)))
    (l17 : K.lookup f17 = some ⟨oc17, od17, .func (PySem.W.fnOf "how_many" "how_many" (defArgs s_how_many) (defBody s_how_many) (defScope s_how_many) .none kV17 dc17 pm17 an17 cd17 ct17), sl17⟩)
    (c17 : PySem.W.codeIn K cd17 "how_many" = true)
    (k17 : PySem.W.keepIn K (.ref f17) = true)
    (a18 : PySem.W.nsIn K mainGlobals "_law_bag" = some (some (.ref f18)))
    (l18 : K.lookup f18 = some ⟨oc18, od18, .func (PySem.W.fnOf "_law_bag" "_law_bag" (defArgs s_law_bag) (defBody s_law_bag) (defScope s_law_bag) .none kV18 dc18 pm18 an18 cd18 ct18), sl18⟩)
    (c18 : PySem.W.codeIn K cd18 "_law_bag" = true)
    (k18 : PySem.W.keepIn K (.ref f18) = true)
    (a19 : PySem.W.nsIn K mainGlobals "_law_draw" = some (some (.ref f19)))
    (l19 : K.lookup f19 = some ⟨oc19, od19, .func (PySem.W.fnOf "_law_draw" "_law_draw" (defArgs s_law_draw) (defBody s_law_draw) (defScope s_law_draw) .none kV19 dc19 pm19 an19 cd19 ct19), sl19⟩)
    (c19 : PySem.W.codeIn K cd19 "_law_draw" = true)
    (k19 : PySem.W.keepIn K (.ref f19) = true)
    (a20 : PySem.W.nsIn K mainGlobals "_law_may" = some (some (.ref f20)))
    (l20 : K.lookup f20 = some ⟨oc20, od20, .func (PySem.W.fnOf "_law_may" "_law_may" (defArgs s_law_may) (defBody s_law_may) (defScope s_law_may) .none kV20 dc20 pm20 an20 cd20 ct20), sl20⟩)
    (c20 : PySem.W.codeIn K cd20 "_law_may" = true)
    (k20 : PySem.W.keepIn K (.ref f20) = true)
    (a21 : PySem.W.nsIn K mainGlobals "_law_choices" = some (some (.ref f21)))
    (l21 : K.lookup f21 = some ⟨oc21, od21, .func (PySem.W.fnOf "_law_choices" "_law_choices" (defArgs s_law_choices) (defBody s_law_choices) (defScope s_law_choices) .none kV21 dc21 pm21 an21 cd21 ct21), sl21⟩)
    (c21 : PySem.W.codeIn K cd21 "_law_choices" = true)
    (k21 : PySem.W.keepIn K (.ref f21) = true)
    (a22 : PySem.W.nsIn K mainGlobals "_law_extra" = some (some (.ref f22)))
    (l22 : K.lookup f22 = some ⟨oc22, od22, .func (PySem.W.fnOf "_law_extra" "_law_extra" (defArgs s_law_extra) (defBody s_law_extra) (defScope s_law_extra) .none kV22 dc22 pm22 an22 cd22 ct22), sl22⟩)
    (c22 : PySem.W.codeIn K cd22 "_law_extra" = true)
    (k22 : PySem.W.keepIn K (.ref f22) = true)
    (a23 : PySem.W.nsIn K mainGlobals "_law_lists" = some (some (.ref f23)))
    (l23 : K.lookup f23 = some ⟨oc23, od23, .func (PySem.W.fnOf "_law_lists" "_law_lists" (defArgs s_law_lists) (defBody s_law_lists) (defScope s_law_lists) .none kV23 dc23 pm23 an23 cd23 ct23), sl23⟩)
    (c23 : PySem.W.codeIn K cd23 "_law_lists" = true)
    (k23 : PySem.W.keepIn K (.ref f23) = true)
    (a24 : PySem.W.nsIn K mainGlobals "law" = some (some (.ref f24)))
    (l24 : K.lookup f24 = some ⟨oc24, od24, .func (PySem.W.fnOf "law" "law" (defArgs s_law) (defBody s_law) (defScope s_law) .none kV24 dc24 pm24 an24 cd24 ct24), sl24⟩)
    (c24 : PySem.W.codeIn K cd24 "law" = true)
    (k24 : PySem.W.keepIn K (.ref f24) = true)
    (g25 : PySem.W.nsIn K mainGlobals "RINGS" = some (some (.int 8 t25)))
    (z26 : PySem.W.nsIn K mainGlobals "len" = some none)
    (z27 : PySem.W.nsIn K mainGlobals "range" = some none)
    (z28 : PySem.W.nsIn K mainGlobals "isinstance" = some none)
    (z29 : PySem.W.nsIn K mainGlobals "all" = some none)
    (z30 : PySem.W.nsIn K mainGlobals "max" = some none)
    (z31 : PySem.W.nsIn K mainGlobals "sorted" = some none)
    (z32 : PySem.W.nsIn K mainGlobals "tuple" = some none)
    (z33 : PySem.W.nsIn K mainGlobals "list" = some none)
    (z34 : PySem.W.nsIn K mainGlobals "int" = some none)
    (z35 : PySem.W.nsIn K mainGlobals "bool" = some none)
    (z36 : PySem.W.nsIn K mainGlobals "str" = some none)
    (z37 : PySem.W.nsIn K mainGlobals "enumerate" = some none)
    (z38 : PySem.W.nsIn K mainGlobals "zip" = some none)
    (z39 : PySem.W.nsIn K mainGlobals "sum" = some none)
    (z40 : PySem.W.nsIn K mainGlobals "min" = some none)
    (z41 : PySem.W.nsIn K mainGlobals "any" = some none)
    (z42 : PySem.W.nsIn K mainGlobals "abs" = some none)
    (eR0 : PySem.W.nsIn K mainGlobals "RingError" = some (some (.ref R0)))
    (a43 : PySem.W.findIn K (.ref R0) "__init__" = some (some (.ref f43)))
    (l43 : K.lookup f43 = some ⟨oc43, od43, .func (PySem.W.fnOf "__init__" "RingError.__init__" (defArgs s_RingError__init) (defBody s_RingError__init) (defScope s_RingError__init) .none kV43 dc43 pm43 an43 cd43 ct43), sl43⟩)
    (c43 : PySem.W.codeIn K cd43 "RingError.__init__" = true)
    (k43 : PySem.W.keepIn K (.ref f43) = true)
    (rg0 : PySem.W.specialIn K (.ref R0) "__getattribute__" = some (some (.builtin "type.__getattribute__")))
    (rg1 : PySem.W.typeIn K (.ref R0) = some mcR)
    (rg2 : PySem.W.readsIn K R0 mcR = true)
    (rg3 : PySem.W.findCls K (.ref R0) mcR "__init__" = some (.val (.ref f43)))
    (gVE0 : PySem.W.nsIn K mainGlobals "ValueError" = some none)
    (vVE : PySem.W.findCls K (.type "ValueError") (.type "type") "__init__" = some (.val (.builtin "ValueError.__init__")))
    (hn0 : PySem.W.specialIn K (.builtin "object.__class__") "__get__" = some (some (.builtin "getset_descriptor.__get__")))
    (ht0 : PySem.W.takesIn K (.builtin "object.__class__") = some true)
    (e_NoRing : PySem.W.nsIn K mainGlobals "NoRing" = some (some (.ref E_NoRing)))
    (x_NoRing : K.lookup E_NoRing = some (excClassObj nm_NoRing q_NoRing E_NoRing N_NoRing bs_NoRing [.ref R0, .type "ValueError", .type "Exception", .type "BaseException", .type "object"] true sn_NoRing sub_NoRing ab_NoRing col_NoRing dd_NoRing k0_NoRing k1_NoRing k2_NoRing k3_NoRing k5_NoRing "ValueError.__new__"))
    (a44 : PySem.W.findIn K (.ref E_NoRing) "__init__" = some (some (.ref f44)))
    (l44 : K.lookup f44 = some ⟨oc44, od44, .func (PySem.W.fnOf "__init__" "NoRing.__init__" (defArgs s_NoRing__init) (defBody s_NoRing__init) (defScope s_NoRing__init) .none kV44 dc44 pm44 an44 cd44 ct44), sl44⟩)
    (c44 : PySem.W.codeIn K cd44 "NoRing.__init__" = true)
    (k44 : PySem.W.keepIn K (.ref f44) = true)
    (t_NoRing : PySem.W.typeIn K (.ref f44) = some (.type "function"))
    (sa_NoRing : PySem.W.findIn K (.ref E_NoRing) "__setattr__" = some (some (.builtin "object.__setattr__")))
    (be_NoRing : PySem.W.subIn K (.ref E_NoRing) (.type "BaseException") = some true)
    (ty_NoRing : PySem.W.typeIn K (.ref E_NoRing) = some (.type "type"))
    (kp_NoRing : PySem.W.keepIn K (.ref E_NoRing) = true)
    (wh_NoRing : PySem.W.findIn K (.ref E_NoRing) "what" = some none)
    (ga_NoRing : PySem.W.findIn K (.ref E_NoRing) "__getattribute__" = some (some (.builtin "BaseException.__getattribute__")))
    (gg_NoRing : PySem.W.findIn K (.ref E_NoRing) "__getattr__" = some none)
    (hd_NoRing : PySem.W.hasDictIn K E_NoRing = true)
    (ca_NoRing : PySem.W.findIn K (.ref E_NoRing) "__class__" = some (some (.builtin "object.__class__")))
    (mo_NoRing : PySem.W.mroIn K E_NoRing (.type "object") = some true)
    (em_NoRing : PySem.W.exmOne K (.ref E_NoRing) (.ref E_NoRing) = some true)
    (q0_NoRing : PySem.W.kitOne K (.ref E_NoRing) (.ref R0) = some true)
    (q1_NoRing : PySem.W.kitOne K (.ref E_NoRing) (.type "ValueError") = some true) :
    ∃ fd : FuncData, (∀ (s : Shared) (v : Value), BindsTo s fd ⟨[v], []⟩ [("script", v)]) ∧ ∀ base : Heap, K.In base → base.Ns mainGlobals mg → FnOk l.prog w K mg base CX0 6 fa fd ["script"] (spLaw K) := by
  have F_is_whole := fun_mk (st := s_is_whole) l1 c1 k1
  have m_is_whole := PySem.W.mg_of X G a1
  have F_is_below := fun_mk (st := s_is_below) l2 c2 k2
  have m_is_below := PySem.W.mg_of X G a2
  have F_is_ring := fun_mk (st := s_is_ring) l3 c3 k3
  have m_is_ring := PySem.W.mg_of X G a3
  have F_may_read := fun_mk (st := s_may_read) l4 c4 k4
  have m_may_read := PySem.W.mg_of X G a4
  have F_may_write := fun_mk (st := s_may_write) l5 c5 k5
  have m_may_write := PySem.W.mg_of X G a5
  have F_may_run := fun_mk (st := s_may_run) l6 c6 k6
  have m_may_run := PySem.W.mg_of X G a6
  have F_may_call := fun_mk (st := s_may_call) l7 c7 k7
  have m_may_call := PySem.W.mg_of X G a7
  have F_ways_in := fun_mk (st := s_ways_in) l8 c8 k8
  have m_ways_in := PySem.W.mg_of X G a8
  have F_refuse_no_ring := fun_mk (st := s_refuse_no_ring) l9 c9 k9
  have m_refuse_no_ring := PySem.W.mg_of X G a9
  have F_wished_ways := fun_mk (st := s_wished_ways) l10 c10 k10
  have m_wished_ways := PySem.W.mg_of X G a10
  have F_given_ways := fun_mk (st := s_given_ways) l11 c11 k11
  have m_given_ways := PySem.W.mg_of X G a11
  have F_rights_for := fun_mk (st := s_rights_for) l12 c12 k12
  have m_rights_for := PySem.W.mg_of X G a12
  have F_all_brackets := fun_mk (st := s_all_brackets) l13 c13 k13
  have m_all_brackets := PySem.W.mg_of X G a13
  have F_brackets_for := fun_mk (st := s_brackets_for) l14 c14 k14
  have m_brackets_for := PySem.W.mg_of X G a14
  have F_opening := fun_mk (st := s_opening) l15 c15 k15
  have m_opening := PySem.W.mg_of X G a15
  have F_lets_all := fun_mk (st := s_lets_all) l16 c16 k16
  have m_lets_all := PySem.W.mg_of X G a16
  have F_how_many := fun_mk (st := s_how_many) l17 c17 k17
  have m_how_many := PySem.W.mg_of X G a17
  have F_law_bag := fun_mk (st := s_law_bag) l18 c18 k18
  have m_law_bag := PySem.W.mg_of X G a18
  have F_law_draw := fun_mk (st := s_law_draw) l19 c19 k19
  have m_law_draw := PySem.W.mg_of X G a19
  have F_law_may := fun_mk (st := s_law_may) l20 c20 k20
  have m_law_may := PySem.W.mg_of X G a20
  have F_law_choices := fun_mk (st := s_law_choices) l21 c21 k21
  have m_law_choices := PySem.W.mg_of X G a21
  have F_law_extra := fun_mk (st := s_law_extra) l22 c22 k22
  have m_law_extra := PySem.W.mg_of X G a22
  have F_law_lists := fun_mk (st := s_law_lists) l23 c23 k23
  have m_law_lists := PySem.W.mg_of X G a23
  have F_law := fun_mk (st := s_law) l24 c24 k24
  have m_law := PySem.W.mg_of X G a24
  have G_RINGS : GI mg "RINGS" 8 := ⟨_, PySem.W.mg_of X G g25⟩
  have B : BT mg := ⟨PySem.W.mg_none_of X G z26, PySem.W.mg_none_of X G z27, PySem.W.mg_none_of X G z28, PySem.W.mg_none_of X G z29, PySem.W.mg_none_of X G z30, PySem.W.mg_none_of X G z31, PySem.W.mg_none_of X G z32, PySem.W.mg_none_of X G z33, PySem.W.mg_none_of X G z34, PySem.W.mg_none_of X G z35, PySem.W.mg_none_of X G z36, PySem.W.mg_none_of X G z37, PySem.W.mg_none_of X G z38, PySem.W.mg_none_of X G z39, PySem.W.mg_none_of X G z40, PySem.W.mg_none_of X G z41, PySem.W.mg_none_of X G z42⟩
  have F_RE := fun_mk (st := s_RingError__init) l43 c43 k43
  have gVE := PySem.W.mg_none_of X G gVE0
  have N0 := PySem.W.mg_of X G eR0
  have bRE := F_RE.binds (ps := ["self", "what"]) fun _ _ _ _ _ _ us hl => match us, hl with | [_, _], _ => rfl
  have U_RE : UbC K mg "RingError" "__init__" f43 := ⟨R0, mcR, PySem.W.mg_of X G eR0, rg0, rg1, rg2, rg3, k43⟩
  have F_NoRing := fun_mk (st := s_NoRing__init) l44 c44 k44
  have b_NoRing := F_NoRing.binds (ps := ["self", "what"]) fun _ _ _ _ _ _ us hl => match us, hl with | [_, _], _ => rfl
  have xf_NoRing : XfC K E_NoRing := ⟨ga_NoRing, gg_NoRing, be_NoRing, hd_NoRing⟩
  have XI_NoRing : ExI K E_NoRing := ⟨xf_NoRing, ca_NoRing, hn0, ht0, mo_NoRing⟩
  have ox_NoRing : OexC K E_NoRing := ⟨⟨_, _, _, _, _, _, _, _, _, _, _, _, _, _, _, x_NoRing, by rfl⟩, sa_NoRing, be_NoRing, ty_NoRing, kp_NoRing⟩
  have e := hfa.symm.trans m_law
  cases e
  refine ⟨PySem.W.fnOf "law" "law" (defArgs s_law) (defBody s_law) (defScope s_law) .none kV24 dc24 pm24 an24 cd24 ct24, fun s v => .of_eq rfl, fun base _ _ => ?_⟩
  have re := ok_REinit (P := l.prog) (w := w) (base := base) F_RE gVE vVE
  have X_NoRing : Exk l.prog w K mg base "NoRing" E_NoRing := ⟨ox_NoRing, wh_NoRing, PySem.W.mg_of X G e_NoRing, xf_NoRing, _, _, a44, t_NoRing, b_NoRing, ok_NoRing_init (P := l.prog) (w := w) (base := base) U_RE re bRE F_NoRing⟩
  have c1 := ok_whole (P := l.prog) (w := w) (base := base) B F_is_whole m_is_whole
  have c2 := ok_below (P := l.prog) (w := w) (base := base) B F_is_below m_is_below c1
  have c3 := ok_ring (P := l.prog) (w := w) (base := base) B F_is_ring m_is_ring G_RINGS c2
  have y0 := ok_may_read (P := l.prog) (w := w) (base := base) B F_may_read m_may_read
  have y1 := ok_may_write (P := l.prog) (w := w) (base := base) B F_may_write m_may_write
  have y2 := ok_may_run (P := l.prog) (w := w) (base := base) B F_may_run m_may_run
  have y3 := ok_may_call (P := l.prog) (w := w) (base := base) B F_may_call m_may_call
  have yw := ok_waysF (P := l.prog) (w := w) (base := base) B F_ways_in m_ways_in y0 y1 y2 y3
  have nr := ok_noR (P := l.prog) (w := w) (base := base) B F_refuse_no_ring m_refuse_no_ring X_NoRing c3
  have ww := ok_wished (P := l.prog) (w := w) (base := base) B F_wished_ways m_wished_ways G_RINGS
  have gw := ok_givenF (P := l.prog) (w := w) (base := base) B F_given_ways m_given_ways G_RINGS yw
  have rf := ok_rights (P := l.prog) (w := w) (base := base) B F_rights_for m_rights_for
  have ab := ok_brk (P := l.prog) (w := w) (base := base) B F_all_brackets m_all_brackets G_RINGS
  have fb := fn_bf (P := l.prog) (w := w) (base := base) B F_brackets_for nr ww rf ab gw
  have bf := ok_bf F_brackets_for m_brackets_for fb
  have bk := okK_bf F_brackets_for m_brackets_for fb
  have la := ok_lets (P := l.prog) (w := w) (base := base) B F_lets_all m_lets_all
  have hw := ok_how (P := l.prog) (w := w) (base := base) B F_how_many m_how_many
  have fo := fn_op (P := l.prog) (w := w) (base := base) B F_opening nr ww rf ab gw la hw
  have op := ok_op F_opening m_opening fo
  have ko := okK_op F_opening m_opening fo
  have d1 := ok_bagK (P := l.prog) (w := w) (base := base) B F_law_bag m_law_bag
  have d2 := ok_drawK (P := l.prog) (w := w) (base := base) B F_law_draw m_law_draw
  have lm := ok_mayL (P := l.prog) (w := w) (base := base) B F_law_may m_law_may
  have lc := ok_choices (P := l.prog) (w := w) (base := base) B F_law_choices m_law_choices
  have le := ok_extra (P := l.prog) (w := w) (base := base) B F_law_extra m_law_extra lm
  have ll := ok_lists (P := l.prog) (w := w) (base := base) B F_law_lists m_law_lists d2 lm
  exact ok_law B F_law d1 ll lc le bf op ko
theorem walk {l : PySem.W.OpenLaw} {q : Program} {loose : List Str} {XP : (Str → Option Value) → Heap → Prop} {YP : World → Heap → Prop} {d : DefRec} {K : Params → PySem.W.Frag} (hn : l.most = some 63) (hdf : d.params.defaults = [])
    (hY : ∀ (w : World) (h : Heap), YP w h → (K w.params).In h)
    (F : ∀ (w : World) (mg : Str → Option Value) (fa : Addr) (h : Heap), (K w.params).In h → h.Ns mainGlobals mg → mg d.name = some (.ref fa) →
      ∃ fd : FuncData, (∀ (s : Shared) (u : Value), BindsTo s fd ⟨[u], []⟩ [("script", u)]) ∧ ∀ base : Heap, (K w.params).In base → base.Ns mainGlobals mg → FnOk l.prog w (K w.params) mg base CX0 6 fa fd ["script"] (spLaw (K w.params))) :
    PySem.W.WalkO q loose XP YP l.row.toRowW d [] (fun f vs => PySem.call f vs) :=
  L2.walk_of (n := 63) (k := 6) (x := "script") (CX := fun _ => CX0) (sp := fun w => spLaw (K w.params)) hn (by decide) hdf ⟨rfl, by decide, by decide⟩ hY F (fun _ _ a ns hl _ hS => ⟨a, ns, rfl, hS, hl, fun _ => rfl⟩) fun _ _ _ _ _ z => z
end Rg

open PySem PySem.W PyProof.Rows
set_option maxRecDepth 100000 in
set_option maxHeartbeats 0 in
theorem PySem.Challenge.cw_ringgates_k46_least_openings_holds : PySem.Challenge.rw_ringgates_k46_least_openings.Holds := by
  w_on; o_law; k_head; (case hw => w_witness2)
  k_fill
  refine Rg.walk (l := PySem.Challenge.rw_ringgates_k46_least_openings) rfl rfl (fun w h Y => PySem.W.kIn_of Y) ?F
  case F =>
    intro w mg fa h KX G hmg
    refine' Rg.all_mk KX G hmg ?a1 ?l1 ?c1 ?k1 ?a2 ?l2 ?c2 ?k2 ?a3 ?l3 ?c3 ?k3 ?a4 ?l4 ?c4 ?k4 ?a5 ?l5 ?c5 ?k5 ?a6 ?l6 ?c6 ?k6 ?a7 ?l7 ?c7 ?k7 ?a8 ?l8 ?c8 ?k8 ?a9 ?l9 ?c9 ?k9 ?a10 ?l10 ?c10 ?k10 ?a11 ?l11 ?c11 ?k11 ?a12 ?l12 ?c12 ?k12 ?a13 ?l13 ?c13 ?k13 ?a14 ?l14 ?c14 ?k14 ?a15 ?l15 ?c15 ?k15 ?a16 ?l16 ?c16 ?k16 ?a17 ?l17 ?c17 ?k17 ?a18 ?l18 ?c18 ?k18 ?a19 ?l19 ?c19 ?k19 ?a20 ?l20 ?c20 ?k20 ?a21 ?l21 ?c21 ?k21 ?a22 ?l22 ?c22 ?k22 ?a23 ?l23 ?c23 ?k23 ?a24 ?l24 ?c24 ?k24 ?g25 ?z26 ?z27 ?z28 ?z29 ?z30 ?z31 ?z32 ?z33 ?z34 ?z35 ?z36 ?z37 ?z38 ?z39 ?z40 ?z41 ?z42 ?eR0 ?a43 ?l43 ?c43 ?k43 ?rg0 ?rg1 ?rg2 ?rg3 ?gVE0 ?vVE ?hn0 ?ht0 ?e_NoRing ?x_NoRing ?a44 ?l44 ?c44 ?k44 ?t_NoRing ?sa_NoRing ?be_NoRing ?ty_NoRing ?kp_NoRing ?wh_NoRing ?ga_NoRing ?gg_NoRing ?hd_NoRing ?ca_NoRing ?mo_NoRing ?em_NoRing ?q0_NoRing ?q1_NoRing
    (case a1 => k_is)
    (case l1 => k_is)
    (case c1 => k_is)
    (case k1 => k_is)
    (case a2 => k_is)
    (case l2 => k_is)
    (case c2 => k_is)
    (case k2 => k_is)
    (case a3 => k_is)
    (case l3 => k_is)
    (case c3 => k_is)
    (case k3 => k_is)
    (case a4 => k_is)
    (case l4 => k_is)
    (case c4 => k_is)
    (case k4 => k_is)
    (case a5 => k_is)
    (case l5 => k_is)
    (case c5 => k_is)
    (case k5 => k_is)
    (case a6 => k_is)
    (case l6 => k_is)
    (case c6 => k_is)
    (case k6 => k_is)
    (case a7 => k_is)
    (case l7 => k_is)
    (case c7 => k_is)
    (case k7 => k_is)
    (case a8 => k_is)
    (case l8 => k_is)
    (case c8 => k_is)
    (case k8 => k_is)
    (case a9 => k_is)
    (case l9 => k_is)
    (case c9 => k_is)
    (case k9 => k_is)
    (case a10 => k_is)
    (case l10 => k_is)
    (case c10 => k_is)
    (case k10 => k_is)
    (case a11 => k_is)
    (case l11 => k_is)
    (case c11 => k_is)
    (case k11 => k_is)
    (case a12 => k_is)
    (case l12 => k_is)
    (case c12 => k_is)
    (case k12 => k_is)
    (case a13 => k_is)
    (case l13 => k_is)
    (case c13 => k_is)
    (case k13 => k_is)
    (case a14 => k_is)
    (case l14 => k_is)
    (case c14 => k_is)
    (case k14 => k_is)
    (case a15 => k_is)
    (case l15 => k_is)
    (case c15 => k_is)
    (case k15 => k_is)
    (case a16 => k_is)
    (case l16 => k_is)
    (case c16 => k_is)
    (case k16 => k_is)
    (case a17 => k_is)
    (case l17 => k_is)
    (case c17 => k_is)
    (case k17 => k_is)
    (case a18 => k_is)
    (case l18 => k_is)
    (case c18 => k_is)
    (case k18 => k_is)
    (case a19 => k_is)
    (case l19 => k_is)
    (case c19 => k_is)
    (case k19 => k_is)
    (case a20 => k_is)
    (case l20 => k_is)
    (case c20 => k_is)
    (case k20 => k_is)
    (case a21 => k_is)
    (case l21 => k_is)
    (case c21 => k_is)
    (case k21 => k_is)
    (case a22 => k_is)
    (case l22 => k_is)
    (case c22 => k_is)
    (case k22 => k_is)
    (case a23 => k_is)
    (case l23 => k_is)
    (case c23 => k_is)
    (case k23 => k_is)
    (case a24 => k_is)
    (case l24 => k_is)
    (case c24 => k_is)
    (case k24 => k_is)
    (case g25 => k_is)
    (case z26 => k_is)
    (case z27 => k_is)
    (case z28 => k_is)
    (case z29 => k_is)
    (case z30 => k_is)
    (case z31 => k_is)
    (case z32 => k_is)
    (case z33 => k_is)
    (case z34 => k_is)
    (case z35 => k_is)
    (case z36 => k_is)
    (case z37 => k_is)
    (case z38 => k_is)
    (case z39 => k_is)
    (case z40 => k_is)
    (case z41 => k_is)
    (case z42 => k_is)
    (case eR0 => k_is)
    (case a43 => k_is)
    (case l43 => k_is)
    (case c43 => k_is)
    (case k43 => k_is)
    (case rg0 => k_is)
    (case rg1 => k_is)
    (case rg2 => k_is)
    (case rg3 => k_is)
    (case gVE0 => k_is)
    (case vVE => k_is)
    (case hn0 => k_is)
    (case ht0 => k_is)
    (case e_NoRing => k_is)
    (case x_NoRing => k_is)
    (case a44 => k_is)
    (case l44 => k_is)
    (case c44 => k_is)
    (case k44 => k_is)
    (case t_NoRing => k_is)
    (case sa_NoRing => k_is)
    (case be_NoRing => k_is)
    (case ty_NoRing => k_is)
    (case kp_NoRing => k_is)
    (case wh_NoRing => k_is)
    (case ga_NoRing => k_is)
    (case gg_NoRing => k_is)
    (case hd_NoRing => k_is)
    (case ca_NoRing => k_is)
    (case mo_NoRing => k_is)
    (case em_NoRing => first | k_is | rfl)
    (case q0_NoRing => first | k_is | rfl)
    (case q1_NoRing => first | k_is | rfl)

